"""Dances that never go back, and how many shortest dances there are: promises [10] and [11]."""

import itertools
import random
import unittest

from placechange.orders import last
from placechange.ways import how_many, never_back
from tests.samples import all_orders, all_shortest, some_orders, some_shortest


def danced_never_back(order, dance):
    row = list(order)
    for step in dance:
        row[step:step + 2] = sorted(row[step:step + 2], reverse=True)
    return row


class NeverBack(unittest.TestCase):
    def test_told_cases(self):
        self.assertEqual(never_back([0], [0]), [0])
        self.assertEqual(never_back([1, 0], [1, 0]), [1, 0])
        self.assertEqual(never_back([0, 1], [1, 0]), [1, 0])
        self.assertEqual(never_back([1, 0, 2], [0, 2, 1]), [1, 2, 0])
        self.assertEqual(never_back([0, 2, 1], [1, 0, 2]), [2, 0, 1])
        self.assertEqual(never_back([1, 2, 0], [1, 2, 0]), [2, 1, 0])
        self.assertEqual(never_back([2, 0, 1], [1, 0, 2]), [2, 0, 1])

    def test_all_pairs_up_to_four_by_every_shortest_dance(self):
        for dancers in range(1, 5):
            for other in all_orders(dancers):
                dances = all_shortest(other)
                for one in all_orders(dancers):
                    for dance in dances:
                        self.assertEqual(never_back(one, other), danced_never_back(one, dance))

    def test_some_pairs_of_five_to_seven_by_several_shortest_dances(self):
        chance = random.Random(10)
        for dancers in (5, 6, 7):
            others = some_orders(dancers, 60, dancers + 30) + [last(dancers)]
            for one, other in zip(some_orders(dancers, 61, dancers), others):
                told = never_back(one, other)
                for turn in range(5):
                    self.assertEqual(told, danced_never_back(one, some_shortest(other, chance)))

    def assert_put_together(self, one, other, third):
        self.assertEqual(never_back(never_back(one, other), third), never_back(one, never_back(other, third)))

    def test_three_orders_up_to_four(self):
        for dancers in range(1, 5):
            for orders in itertools.product(all_orders(dancers), repeat=3):
                self.assert_put_together(*orders)

    def test_three_orders_of_five_to_seven(self):
        for dancers in (5, 6, 7):
            orders = some_orders(dancers, 300, dancers)
            for number in range(0, 300, 3):
                self.assert_put_together(*orders[number:number + 3])

    def test_with_the_first_and_the_last(self):
        for dancers in range(1, 8):
            first, final = list(range(dancers)), last(dancers)
            for order in some_orders(dancers, 20, dancers) + [first, final]:
                self.assertEqual([never_back(order, first), never_back(first, order)], [order, order])
                self.assertEqual([never_back(order, final), never_back(final, order)], [final, final])


class HowManyShortest(unittest.TestCase):
    def assert_many(self, order, wanted):
        many = how_many(order)
        self.assertIs(type(many), int)
        self.assertEqual(many, wanted)

    def test_all_orders_up_to_five(self):
        for dancers in range(1, 6):
            for order in all_orders(dancers):
                self.assert_many(order, len(all_shortest(order)))

    def test_last_orders(self):
        for dancers, wanted in ((1, 1), (2, 1), (3, 2), (4, 16), (5, 768), (6, 292864), (7, 1100742656)):
            self.assert_many(list(range(dancers))[::-1], wanted)

    def test_first_orders_have_one_the_empty_dance(self):
        for dancers in range(1, 8):
            self.assert_many(list(range(dancers)), 1)

    def test_some_of_six_and_seven(self):
        # Two parts of a row that don't mix: the turns of their dances can be mixed in every way.
        self.assert_many([1, 0, 2, 3, 5, 4], 2)
        self.assert_many([2, 1, 0, 5, 4, 3], 2 * 2 * 20)
        self.assert_many([1, 0, 3, 2, 5, 4, 6], 6)
        self.assert_many([3, 2, 1, 0, 6, 5, 4], 16 * 2 * 84)
        self.assert_many([1, 2, 3, 4, 5, 6, 0], 1)
        self.assert_many([6, 0, 1, 2, 3, 4, 5], 1)
        self.assert_many([5, 6, 0, 1, 2, 3, 4], 42)

    def test_an_order_has_as_many_as_all_that_are_one_step_ahead_of_it(self):
        for dancers in (6, 7):
            for order in some_orders(dancers, 15, dancers):
                ahead = [order[:step] + [order[step + 1], order[step]] + order[step + 2:]
                         for step in range(dancers - 1) if order[step] > order[step + 1]]
                self.assert_many(order, sum(how_many(each) for each in ahead))

    def test_few_enough_to_be_danced_of_six_and_seven(self):
        counted = 0
        for order in some_orders(6, 80, 11) + some_orders(7, 80, 12):
            if sum(one > other for one, other in itertools.combinations(order, 2)) <= 8:
                self.assert_many(order, len(all_shortest(order)))
                counted += 1
        self.assertGreater(counted, 40)
