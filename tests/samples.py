"""What the tests share: a dance danced by itself, samples of orders and dances, and what is none of them."""

import itertools
import random

MOST = 30

# Python can't write numbers of so many digits out as texts, not even within an error's words.
VAST = 10 ** 5000


class Stranger:
    pass


def danced(row, dance):
    """The row behind the dance, begun from the row given."""
    row = list(row)
    for step in dance:
        row[step:step + 2] = [row[step + 1], row[step]]
    return row


def made(dancers, dance):
    return danced(range(dancers), dance)


def all_orders(dancers):
    return [list(order) for order in itertools.permutations(range(dancers))]


def all_dances(dancers, longest):
    for length in range(longest + 1):
        for dance in itertools.product(range(dancers - 1), repeat=length):
            yield list(dance)


def fewest_steps(dancers):
    """For each order, as a tuple, the fewest steps that make it, found by going through the orders row by row."""
    first = tuple(range(dancers))
    fewest = {first: 0}
    row = [first]
    while row:
        behind = []
        for order in row:
            for step in range(dancers - 1):
                other = tuple(danced(order, [step]))
                if other not in fewest:
                    fewest[other] = fewest[order] + 1
                    behind.append(other)
        row = behind
    return fewest


def all_shortest(order):
    """All shortest dances of an order: the last step of each is a place where a greater one stands ahead."""
    if order == sorted(order):
        return [[]]
    dances = []
    for step in range(len(order) - 1):
        if order[step] > order[step + 1]:
            dances.extend([dance + [step] for dance in all_shortest(danced(order, [step]))])
    return dances


def some_orders(dancers, many, seed):
    chance = random.Random(seed)
    return [chance.sample(range(dancers), dancers) for turn in range(many)]


def some_dances(dancers, many, length, seed):
    chance = random.Random(seed)
    return [[chance.randrange(dancers - 1) for turn in range(length)] for again in range(many)]


def some_shortest(order, chance):
    """A shortest dance of the order, its last steps chosen by chance."""
    row = list(order)
    steps = []
    while row != sorted(row):
        step = chance.choice([place for place in range(len(row) - 1) if row[place] > row[place + 1]])
        row = danced(row, [step])
        steps.insert(0, step)
    return steps


def grown(dancers, dance, length, chance):
    """A dance of the same order with so many steps, or one fewer: pairs of dances that undo themselves are put in."""
    dance = list(dance)
    while len(dance) + 2 <= length:
        half = min(chance.randint(1, 3), (length - len(dance)) // 2)
        way = [chance.randrange(dancers - 1) for turn in range(half)]
        at = chance.randint(0, len(dance))
        dance[at:at] = way + way[::-1]
    return dance


def no_counts():
    return [
        0, 8, 9, -1, -7, VAST, -VAST, True, False, None, "", "3", 3.0, 0.5, [], [3], (3,), {}, {3: 3}, {3},
        b"3", 3j, range(3), len, int, Stranger(), float("nan"), float("inf"),
    ]


def no_whole_numbers():
    return [
        True, False, None, "", "0", 0.0, 1.0, [], [0], (), (0,), {}, {0}, b"0", 0j, range(1), len, int, Stranger(),
        float("nan"),
    ]


def no_lists():
    return [
        None, 0, 3, -1, VAST, True, False, "", "0", "012", 0.0, (), (0,), (0, 1, 2), {}, {0: 0}, {0}, frozenset(),
        b"", b"\x00", range(0), range(3), iter([0]), len, list, Stranger(),
    ]


def no_orders():
    orders = no_lists()
    orders.extend([[], [1], [-1], [0, 0], [1, 1], [0, 2], [1, 2], [0, 1, 3], [0, 1, 1], [2, 1, -1], [-1, 0, 1]])
    orders.extend([[3, 1, 0], [0, 1, 2, 4], [VAST], [0, -VAST], [0, VAST, 1], [0, 1, 2, 3, 4, 5, 5]])
    orders.extend([[1, 2, 3, 4, 5, 6, 7], list(range(8)), list(range(7, -1, -1)), [0] * 8, [0] * 100000])
    orders.extend([[False, True], [0, True], [False, 1], [True, 0], [False], [True, 0, 2], [0, 1, True]])
    for value in no_whole_numbers():
        orders.extend([[value], [0, value], [value, 1], [1, 0, value]])
    return orders


def no_dances(dancers):
    dances = no_lists()
    dances.extend([[-1], [dancers - 1], [dancers], [VAST], [-VAST], [7]])
    if dancers > 1:
        dances.extend([[0, dancers - 1], [0, -1], [0] * 30 + [-1], [0] * 31, [0] * 100000])
        dances.extend([[0] * 29 + [dancers - 1], [dancers - 1] + [0] * 29, [-1, 0]])
    for value in no_whole_numbers():
        dances.append([value])
        if dancers > 1:
            dances.extend([[0, value], [value, 0]])
    return dances


def no_texts():
    return [
        None, 0, 1, VAST, -VAST, True, False, 0.0, 0j, [], [0], ["0"], (), (0,), ("0", "0"), {}, {"0": 0}, {"0"},
        frozenset(), b"", b"0", bytearray(b"0"), memoryview(b"0"), range(0), iter("0"), len, str, Stranger(),
    ]
