"""Columns: promise [12]."""

import itertools
import random
import unittest

from placechange import columns as columns_file
from placechange.columns import Columns, columns
from placechange.moves import moved
from placechange.ways import Answer
from tests.samples import all_dances, some_dances


def are_near(one, other):
    return one - other in (-1, 0, 1)


def by_trades_alone(dance):
    """All dances, as tuples, to which trades alone lead."""
    found = {tuple(dance)}
    row = [tuple(dance)]
    while row:
        dance = row.pop()
        for at in range(len(dance) - 1):
            if not are_near(dance[at], dance[at + 1]):
                other = dance[:at] + (dance[at + 1], dance[at]) + dance[at + 2:]
                if other not in found:
                    found.add(other)
                    row.append(other)
    return found


class ColumnsCase(unittest.TestCase):
    def assert_columns(self, dance, told):
        self.assertIs(type(told), list)
        for column in told:
            self.assertIs(type(column), list)
            self.assertTrue(column)
            for step in column:
                self.assertIs(type(step), int)
            self.assertEqual(column, sorted(column))
            for one, other in itertools.combinations(column, 2):
                self.assertFalse(are_near(one, other))
        self.assertEqual(sorted(sum(told, [])), sorted(dance))

    def assert_chain(self, dance, chain, many):
        self.assertIs(type(chain), list)
        self.assertEqual(len(chain), many)
        for place in chain:
            self.assertIs(type(place), int)
            self.assertIn(place, range(len(dance)))
        for one, other in zip(chain, chain[1:]):
            self.assertLess(one, other)
            self.assertTrue(are_near(dance[one], dance[other]))

    def assert_led_by_trades(self, dancers, dance, other):
        for place, step in enumerate(other):
            for at in range(dance.index(step, place) - 1, place - 1, -1):
                dance = moved(dancers, dance, ("trade", at))
        self.assertEqual(dance, other)

    def assert_told(self, dancers, dance):
        answer = columns(dancers, dance)
        self.assertIs(type(answer), Columns)
        self.assert_columns(dance, answer.columns)
        self.assert_chain(dance, answer.chain, len(answer.columns))
        self.assert_led_by_trades(dancers, dance, sum(answer.columns, []))
        return answer


class TheAnswer(ColumnsCase):
    def test_the_class(self):
        self.assertEqual(Columns.__bases__, (Answer,))
        self.assertEqual(columns_file.Columns.__name__, "Columns")

    def test_the_fields_are_set_when_it_is_made(self):
        answer = Columns([[0, 2], [1]], [1, 2])
        self.assertEqual([answer.columns, answer.chain], [[[0, 2], [1]], [1, 2]])
        answer = Columns(chain=[0], columns=[[3]])
        self.assertEqual([answer.columns, answer.chain], [[[3]], [0]])
        self.assertEqual(sorted(vars(answer)), ["chain", "columns"])


class CutIntoColumns(ColumnsCase):
    def test_told_cases(self):
        for dancers, dance, wanted in (
            (2, [0, 0, 0], [[0], [0], [0]]),
            (4, [2, 0], [[0, 2]]),
            (4, [0, 2, 1], [[0, 2], [1]]),
            (4, [2, 1, 0], [[2], [1], [0]]),
            (5, [0, 1, 3], [[0, 3], [1]]),
            (7, [5, 3, 1, 0, 2, 4], [[1, 3, 5], [0, 2, 4]]),
            (7, [0, 0, 5], [[0, 5], [0]]),
        ):
            answer = self.assert_told(dancers, dance)
            self.assertEqual(answer.columns, wanted)

    def test_told_chains(self):
        # In these dances there is one chain alone.
        for dancers, dance, wanted in (
            (2, [0, 0, 0], [0, 1, 2]),
            (4, [0, 1, 2], [0, 1, 2]),
            (5, [0, 3, 1], [0, 2]),
            (7, [0, 5, 5], [1, 2]),
            (7, [0, 5, 1, 3, 2], [0, 2, 4]),
        ):
            self.assertEqual(self.assert_told(dancers, dance).chain, wanted)

    def test_no_step(self):
        for dancers in range(1, 8):
            answer = self.assert_told(dancers, [])
            self.assertEqual([answer.columns, answer.chain], [[], []])

    def test_one_step(self):
        for dancers in range(2, 8):
            for step in range(dancers - 1):
                answer = self.assert_told(dancers, [step])
                self.assertEqual([answer.columns, answer.chain], [[[step]], [0]])

    def test_thirty_steps(self):
        for dancers in range(2, 8):
            for dance in some_dances(dancers, 60, 30, dancers) + [[0] * 30, [dancers - 2] * 30]:
                self.assert_told(dancers, dance)
        self.assertEqual(columns(2, [0] * 30).columns, [[0]] * 30)
        self.assertEqual(columns(2, [0] * 30).chain, list(range(30)))
        self.assertEqual(columns(7, [0, 2, 4] * 10).columns, [[0, 2, 4]] * 10)

    def test_all_short_dances_by_trades_alone(self):
        for dancers, longest in ((2, 5), (3, 5), (4, 5), (5, 4), (6, 4), (7, 3)):
            for dance in all_dances(dancers, longest):
                answer = self.assert_told(dancers, dance)
                self.assertIn(tuple(sum(answer.columns, [])), by_trades_alone(dance))

    def test_dances_of_each_length(self):
        chance = random.Random(12)
        for dancers in range(2, 8):
            for length in range(31):
                self.assert_told(dancers, [chance.randrange(dancers - 1) for turn in range(length)])

    def test_dances_with_many_trades(self):
        chance = random.Random(13)
        for turn in range(200):
            self.assert_told(7, [chance.choice((0, 2, 5, 5, 3)) for again in range(chance.randint(5, 30))])
