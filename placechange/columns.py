"""Columns: a dance cut into as few lists of steps as can be, and a chain of near steps that tells why no fewer."""

from placechange.checks import check_dance
from placechange.ways import Answer


class Columns(Answer):

    def __init__(self, columns, chain):
        self.columns = [list(column) for column in columns]
        self.chain = list(chain)


def near(one, other):
    return abs(one - other) <= 1


def column_numbers(dance):
    # A step can trade with what stands ahead of it up to the last column that holds a step near it.
    numbers = []
    for place, step in enumerate(dance):
        behind = [numbers[ahead] + 1 for ahead in range(place) if near(dance[ahead], step)]
        numbers.append(max(behind, default=0))
    return numbers


def cut(dance, numbers):
    lists = []
    for number in range(max(numbers, default=-1) + 1):
        lists.append(sorted([step for place, step in enumerate(dance) if numbers[place] == number]))
    return lists


def chain_back(dance, numbers):
    # A step stands in its column for the sake of a near one in the column ahead, earlier in the dance.
    chain = []
    number = max(numbers, default=-1)
    for place in range(len(dance) - 1, -1, -1):
        if numbers[place] == number and (not chain or near(dance[place], dance[chain[-1]])):
            chain.append(place)
            number -= 1
    chain.reverse()
    return chain


def columns(dancers, dance):
    check_dance(dancers, dance)
    numbers = column_numbers(dance)
    return Columns(cut(dance, numbers), chain_back(dance, numbers))
