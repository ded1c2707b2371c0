"""Within and beyond: promise [9]."""

import itertools
import random
import unittest

from placechange import ways
from placechange.orders import last
from placechange.ways import Answer, Beyond, Within, within
from tests.samples import all_orders, all_shortest, made, some_orders, some_shortest


def crossed_count(order):
    return sum(one > other for one, other in itertools.combinations(order, 2))


def made_of_some(dancers, dance):
    """All orders, as tuples, that some steps of the dance make, danced in their turn."""
    return {tuple(made(dancers, itertools.compress(dance, taken)))
            for taken in itertools.product((0, 1), repeat=len(dance))}


def there(order, many, dancer):
    return sum(each >= dancer for each in order[:many])


class WithinCase(unittest.TestCase):
    def assert_within(self, one, other, answer):
        dancers = len(one)
        self.assertIs(type(answer), Within)
        self.assertIs(type(answer.dance), list)
        self.assertEqual(made(dancers, answer.dance), other)
        self.assertEqual(len(answer.dance), crossed_count(other))
        self.assertIs(type(answer.places), list)
        for place in answer.places:
            self.assertIs(type(place), int)
            self.assertIn(place, range(len(answer.dance)))
        self.assertEqual(answer.places, sorted(set(answer.places)))
        self.assertEqual(len(answer.places), crossed_count(one))
        self.assertEqual(made(dancers, [answer.dance[place] for place in answer.places]), one)

    def assert_beyond(self, one, other, answer):
        self.assertIs(type(answer), Beyond)
        self.assertEqual([type(answer.many), type(answer.dancer)], [int, int])
        self.assertIn(answer.many, range(len(one) + 1))
        self.assertIn(answer.dancer, range(len(one)))
        self.assertGreater(there(one, answer.many, answer.dancer), there(other, answer.many, answer.dancer))

    def assert_told(self, one, other):
        """What is told bears itself out; one order can't be both within and beyond another."""
        answer = within(one, other)
        if isinstance(answer, Within):
            self.assert_within(one, other, answer)
        else:
            self.assert_beyond(one, other, answer)
        return answer


class TheAnswers(unittest.TestCase):
    def test_the_classes(self):
        self.assertEqual(Answer.__bases__, (object,))
        self.assertEqual(Within.__bases__, (Answer,))
        self.assertEqual(Beyond.__bases__, (Answer,))
        for name in ("Answer", "Within", "Beyond"):
            self.assertEqual(getattr(ways, name).__name__, name)

    def test_the_fields_are_set_when_it_is_made(self):
        answer = Within([0, 1], [1])
        self.assertEqual([answer.dance, answer.places], [[0, 1], [1]])
        answer = Within(places=[], dance=[2])
        self.assertEqual([answer.dance, answer.places], [[2], []])
        answer = Beyond(2, 3)
        self.assertEqual([answer.many, answer.dancer], [2, 3])
        answer = Beyond(dancer=1, many=4)
        self.assertEqual([answer.many, answer.dancer], [4, 1])

    def test_the_fields_are_these_alone(self):
        self.assertEqual(sorted(vars(Within([], []))), ["dance", "places"])
        self.assertEqual(sorted(vars(Beyond(1, 1))), ["dancer", "many"])


class WhatIsWithin(WithinCase):
    def test_told_cases(self):
        answer = within([0], [0])
        self.assertEqual([answer.dance, answer.places], [[], []])
        answer = within([1, 0], [1, 0])
        self.assertEqual([answer.dance, answer.places], [[0], [0]])
        answer = within([0, 2, 1], [1, 2, 0])
        self.assertEqual([answer.dance, answer.places], [[0, 1], [1]])
        answer = within([1, 0, 2], [1, 2, 0])
        self.assertEqual([answer.dance, answer.places], [[0, 1], [0]])
        answer = within([1, 0], [0, 1])
        self.assertEqual([answer.many, answer.dancer], [1, 1])
        answer = within([2, 0, 1], [1, 2, 0])
        self.assertEqual([answer.many, answer.dancer], [1, 2])
        answer = within([1, 2, 0], [2, 0, 1])
        self.assertEqual([answer.many, answer.dancer], [2, 1])

    def test_all_pairs_up_to_four_by_every_shortest_dance(self):
        for dancers in range(1, 5):
            for other in all_orders(dancers):
                made_of = [made_of_some(dancers, dance) for dance in all_shortest(other)]
                for orders in made_of:
                    self.assertEqual(orders, made_of[0])
                for one in all_orders(dancers):
                    answer = self.assert_told(one, other)
                    self.assertIs(isinstance(answer, Within), tuple(one) in made_of[0])

    def test_all_pairs_of_five(self):
        for other in all_orders(5):
            for one in all_orders(5):
                answer = self.assert_told(one, other)
                wanted = all(
                    there(one, many, dancer) <= there(other, many, dancer)
                    for many in range(6) for dancer in range(5)
                )
                self.assertIs(isinstance(answer, Within), wanted)

    def test_some_pairs_of_six_and_seven(self):
        for dancers in (6, 7):
            kinds = set()
            for one, other in itertools.product(some_orders(dancers, 40, dancers), repeat=2):
                kinds.add(type(self.assert_told(one, other)))
            self.assertEqual(kinds, {Within, Beyond})

    def test_orders_made_of_some_steps(self):
        chance = random.Random(9)
        for dancers in (4, 5, 6, 7):
            for other in some_orders(dancers, 60, dancers) + [last(dancers)] * 20:
                dance = some_shortest(other, chance)
                one = made(dancers, [step for step in dance if chance.randrange(5)])
                self.assert_within(one, other, within(one, other))

    def test_with_the_first_the_last_and_itself(self):
        for dancers in range(1, 8):
            first, final = list(range(dancers)), last(dancers)
            for order in some_orders(dancers, 20, dancers) + [first, final]:
                self.assert_within(first, order, within(first, order))
                self.assert_within(order, final, within(order, final))
                self.assert_within(order, order, within(order, list(order)))
                if order != first:
                    self.assert_beyond(order, first, within(order, first))
                if order != final:
                    self.assert_beyond(final, order, within(final, order))

    def test_a_single_step_is_beyond_where_the_other_never_has_it(self):
        for dancers in range(2, 8):
            for step in range(dancers - 1):
                other = list(range(step, -1, -1)) + list(range(dancers - 1, step, -1))
                one = made(dancers, [step])
                self.assert_beyond(one, other, within(one, other))
