"""Orders: promises [1], [2], [3] and [5]."""

import itertools
import random

from placechange.errors import BadDance, BadOrder
from placechange.orders import back, crossed, last, order_of, rest, shortest
from tests.refusing import RefusingCase
from tests.samples import (
    all_dances, all_orders, all_shortest, danced, fewest_steps, made, no_counts, no_dances, no_orders, some_dances,
    some_orders, some_shortest,
)

OF_ORDERS = (crossed, shortest, back, rest)


class WhatADanceMakes(RefusingCase):
    def test_told_cases(self):
        self.assertEqual(order_of(1, []), [0])
        self.assertEqual(order_of(2, [0]), [1, 0])
        self.assertEqual(order_of(2, [0, 0]), [0, 1])
        self.assertEqual(order_of(3, [0, 1]), [1, 2, 0])
        self.assertEqual(order_of(3, [1, 0]), [2, 0, 1])
        self.assertEqual(order_of(4, [0, 1, 2]), [1, 2, 3, 0])
        self.assertEqual(order_of(7, [5]), [0, 1, 2, 3, 4, 6, 5])

    def test_no_step_leaves_the_first_order(self):
        for dancers in range(1, 8):
            self.assertEqual(order_of(dancers, []), list(range(dancers)))

    def test_one_step_changes_two_neighbours(self):
        for dancers in range(2, 8):
            for step in range(dancers - 1):
                row = list(range(dancers))
                row[step] = step + 1
                row[step + 1] = step
                self.assertEqual(order_of(dancers, [step]), row)

    def test_all_short_dances(self):
        for dancers, longest in ((2, 6), (3, 6), (4, 5), (5, 4), (7, 3)):
            for dance in all_dances(dancers, longest):
                self.assertEqual(order_of(dancers, dance), made(dancers, dance))

    def test_thirty_steps(self):
        for dancers in range(2, 8):
            for dance in some_dances(dancers, 20, 30, dancers):
                self.assertEqual(order_of(dancers, dance), made(dancers, dance))

    def test_what_is_no_count_is_refused(self):
        self.assert_each_refused(BadDance, order_of, [(value, []) for value in no_counts()])
        self.assert_each_refused(BadDance, order_of, [(value, [0]) for value in no_counts()])

    def test_what_is_no_dance_is_refused(self):
        for dancers in range(1, 8):
            self.assert_each_refused(BadDance, order_of, [(dancers, value) for value in no_dances(dancers)])

    def test_one_dancer_has_no_step(self):
        self.assert_refused(BadDance, order_of, 1, [0])


class CrossedPairs(RefusingCase):
    def test_told_cases(self):
        self.assertEqual(crossed([0]), [])
        self.assertEqual(crossed([0, 1, 2, 3]), [])
        self.assertEqual(crossed([1, 0]), [(0, 1)])
        self.assertEqual(crossed([2, 0, 1]), [(0, 2), (1, 2)])
        self.assertEqual(crossed([2, 1, 0]), [(0, 1), (0, 2), (1, 2)])
        self.assertEqual(crossed([3, 0, 2, 1]), [(0, 3), (1, 2), (1, 3), (2, 3)])

    def test_all_orders(self):
        for dancers in range(1, 8):
            for order in all_orders(dancers):
                pairs = [
                    pair for pair in itertools.combinations(range(dancers), 2)
                    if order.index(pair[1]) < order.index(pair[0])
                ]
                self.assertEqual(crossed(order), pairs)

    def test_the_pairs_are_tuples_in_a_list(self):
        pairs = crossed([3, 2, 1, 0])
        self.assertIs(type(pairs), list)
        self.assertEqual([type(pair) for pair in pairs], [tuple] * 6)


class ShortestDances(RefusingCase):
    def test_told_cases(self):
        self.assertEqual(shortest([0]), [])
        self.assertEqual(shortest([0, 1, 2]), [])
        self.assertEqual(shortest([1, 0]), [0])
        self.assertEqual(shortest([1, 2, 0]), [0, 1])
        self.assertEqual(shortest([2, 0, 1]), [1, 0])

    def test_of_all_orders(self):
        for dancers in range(1, 8):
            fewest = fewest_steps(dancers)
            for order in all_orders(dancers):
                dance = shortest(order)
                self.assertEqual(made(dancers, dance), order)
                self.assertEqual(len(dance), fewest[tuple(order)])
                self.assertEqual(len(dance), len(crossed(order)))


class TheLastAndTheRest(RefusingCase):
    def test_the_last_order(self):
        for dancers in range(1, 8):
            self.assertEqual(crossed(last(dancers)), list(itertools.combinations(range(dancers), 2)))
        self.assertEqual(last(1), [0])
        self.assertEqual(last(4), [3, 2, 1, 0])

    def test_last_refuses_what_is_no_count(self):
        self.assert_each_refused(BadDance, last, [(value,) for value in no_counts()])

    def test_the_rest_in_told_cases(self):
        self.assertEqual(rest([0]), [0])
        self.assertEqual(rest([0, 1, 2]), [2, 1, 0])
        self.assertEqual(rest([2, 1, 0]), [0, 1, 2])
        self.assertEqual(rest([1, 2, 0]), [1, 0, 2])
        self.assertEqual(rest([2, 0, 1]), [0, 2, 1])

    def assert_rest(self, order, firsts, seconds):
        dancers = len(order)
        for first in firsts:
            for second in seconds:
                self.assertEqual(made(dancers, first + second), list(range(dancers))[::-1])
                self.assertEqual(len(first + second), dancers * (dancers - 1) // 2)

    def test_each_shortest_dance_of_the_rest_up_to_four(self):
        for dancers in range(1, 5):
            for order in all_orders(dancers):
                self.assert_rest(order, all_shortest(order), all_shortest(rest(order)))

    def test_each_shortest_dance_of_the_rest_of_five(self):
        for order in all_orders(5):
            self.assert_rest(order, [shortest(order)], all_shortest(rest(order)))
            self.assert_rest(order, all_shortest(order), [shortest(rest(order))])

    def test_the_rest_of_six_and_seven(self):
        chance = random.Random(5)
        for dancers in (6, 7):
            for order in some_orders(dancers, 200, dancers) + [last(dancers), list(range(dancers))]:
                firsts = [some_shortest(order, chance) for turn in range(3)]
                seconds = [some_shortest(rest(order), chance) for turn in range(3)]
                self.assert_rest(order, firsts, seconds)


class TheOrderBack(RefusingCase):
    def test_told_cases(self):
        self.assertEqual(back([0]), [0])
        self.assertEqual(back([1, 2, 0]), [2, 0, 1])
        self.assertEqual(back([2, 0, 1]), [1, 2, 0])
        self.assertEqual(back([3, 0, 2, 1]), [1, 3, 2, 0])

    def test_it_tells_each_dancers_place(self):
        for dancers in range(1, 8):
            for order in all_orders(dancers):
                self.assertEqual(back(order), [order.index(dancer) for dancer in range(dancers)])

    def test_a_dance_from_its_end_makes_it(self):
        for dancers in range(1, 6):
            for order in all_orders(dancers):
                self.assertEqual(order_of(dancers, shortest(order)[::-1]), back(order))
        for dancers in range(2, 8):
            for dance in some_dances(dancers, 30, 30, dancers + 50):
                self.assertEqual(order_of(dancers, dance[::-1]), back(order_of(dancers, dance)))


class OfEveryFunction(RefusingCase):
    def test_what_is_no_order_is_refused(self):
        for asked in OF_ORDERS:
            self.assert_each_refused(BadOrder, asked, [(value,) for value in no_orders()])

    def test_what_is_handed_in_stays(self):
        for asked in OF_ORDERS:
            for order in all_orders(4):
                kept = list(order)
                asked(order)
                self.assertEqual(order, kept)
        dance = [0, 1, 2, 1, 1]
        order_of(4, dance)
        self.assertEqual(dance, [0, 1, 2, 1, 1])

    def test_what_is_told_is_the_askers_own(self):
        asks = [(asked, (order,)) for asked in OF_ORDERS for order in all_orders(4)]
        asks.extend([(last, (dancers,)) for dancers in range(1, 8)])
        asks.extend([(order_of, (4, dance)) for dance in all_dances(4, 2)])
        for asked, handed in asks:
            told = asked(*handed)
            self.assertIs(type(told), list)
            kept = list(told)
            for value in handed:
                self.assertIsNot(told, value)
            told.append("other")
            told[0] = None
            self.assertEqual(asked(*handed), kept)

    def test_a_changed_order_is_asked_anew(self):
        order = [0, 1, 2]
        for asked in OF_ORDERS:
            asked(order)
        order.reverse()
        self.assertEqual([asked(order) for asked in OF_ORDERS[2:]], [[2, 1, 0], [0, 1, 2]])
        self.assertEqual(danced([0, 1, 2], shortest(order)), [2, 1, 0])
