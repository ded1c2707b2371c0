"""The moves that lead one dance to another of the same order: promise [7]."""

import random

from placechange.errors import BadDance, Unlike
from placechange.moves import led, moved
from placechange.orders import last
from tests.refusing import RefusingCase
from tests.samples import (
    all_dances, all_orders, all_shortest, fewest_steps, grown, made, no_dances, some_dances, some_orders,
    some_shortest,
)


def by_order(dancers, dances):
    alike = {}
    for dance in dances:
        alike.setdefault(tuple(made(dancers, dance)), []).append(dance)
    return alike


class LedCase(RefusingCase):
    def assert_led(self, dancers, one, other):
        moves = led(dancers, one, other)
        self.assertIs(type(moves), list)
        dance = one
        for move in moves:
            self.assertIs(type(move), tuple)
            dance = moved(dancers, dance, move)
            self.assertLessEqual(len(dance), max(len(one), len(other)))
        self.assertEqual(dance, other)
        return moves

    def assert_led_by_trades_and_plaits(self, dancers, one, other):
        for move in self.assert_led(dancers, one, other):
            self.assertIn(move[0], ("trade", "plait"))


class DancesOfOneOrder(LedCase):
    def test_told_cases(self):
        self.assertEqual(led(3, [0, 1, 0], [1, 0, 1]), [("plait", 0)])
        self.assertEqual(led(4, [0, 2], [2, 0]), [("trade", 0)])
        self.assertEqual(led(2, [0, 0], []), [("out", 0)])
        self.assertEqual(led(2, [], [0, 0]), [("in", 0, 0)])

    def test_both_the_same(self):
        self.assertEqual(led(1, [], []), [])
        for dancers in range(2, 8):
            for dance in [[], [0]] + some_dances(dancers, 20, 30, dancers):
                self.assertEqual(self.assert_led(dancers, dance, list(dance)), [])

    def test_all_pairs_of_short_dances(self):
        for dancers, longest in ((2, 6), (3, 6), (4, 4), (5, 3)):
            for dances in by_order(dancers, all_dances(dancers, longest)).values():
                for one in dances:
                    for other in dances:
                        self.assert_led(dancers, one, other)

    def test_one_of_them_empty(self):
        chance = random.Random(2)
        for dancers in range(2, 8):
            for length in (2, 10, 20, 30):
                for turn in range(5):
                    dance = grown(dancers, [], length, chance)
                    self.assertEqual(len(dance), length)
                    self.assert_led(dancers, dance, [])
                    self.assert_led(dancers, [], dance)

    def test_all_shortest_ones_up_to_four(self):
        for dancers in range(1, 5):
            for order in all_orders(dancers):
                dances = all_shortest(order)
                for one in dances:
                    for other in dances:
                        self.assert_led_by_trades_and_plaits(dancers, one, other)

    def test_all_shortest_ones_of_the_last_order_of_five(self):
        dances = all_shortest(last(5))
        self.assertEqual(len(dances), 768)
        for number, one in enumerate(dances):
            self.assert_led_by_trades_and_plaits(5, one, dances[number - 1])

    def test_shortest_ones_of_five_to_seven(self):
        chance = random.Random(3)
        for dancers in (5, 6, 7):
            for order in some_orders(dancers, 40, dancers) + [last(dancers)] * 10:
                one = some_shortest(order, chance)
                self.assert_led_by_trades_and_plaits(dancers, one, some_shortest(order, chance))

    def test_one_shortest_and_one_not(self):
        chance = random.Random(4)
        for dancers in range(2, 8):
            for order in some_orders(dancers, 20, dancers) + [last(dancers)]:
                one = some_shortest(order, chance)
                for length in (len(one) + 2, 30):
                    other = grown(dancers, some_shortest(order, chance), length, chance)
                    self.assert_led(dancers, one, other)
                    self.assert_led(dancers, other, one)

    def test_neither_shortest(self):
        chance = random.Random(5)
        for dancers in range(2, 8):
            for order in some_orders(dancers, 20, dancers):
                one = grown(dancers, some_shortest(order, chance), 24, chance)
                other = grown(dancers, some_shortest(order, chance), 30, chance)
                self.assert_led(dancers, one, other)
                self.assert_led(dancers, other, one)

    def test_both_of_thirty_steps(self):
        chance = random.Random(6)
        many = 0
        for dancers in range(2, 8):
            for dance in some_dances(dancers, 20, 30, dancers):
                other = grown(dancers, some_shortest(made(dancers, dance), chance), 30, chance)
                self.assertEqual(len(other), 30)
                self.assert_led(dancers, dance, other)
                many += 1
        self.assertEqual(many, 120)

    def test_between_dances_that_have_nothing_to_go_out_at_once(self):
        # Here no two steps alike stand beside each other, and only behind some trades and plaits an out can be done.
        self.assert_led(3, [0, 1, 0, 1, 0, 1], [])
        self.assert_led(3, [0, 1] * 15, [])
        self.assert_led(3, [1, 0] * 15, [0, 1] * 15)
        self.assert_led(7, [0, 1, 2, 3, 4, 5] * 5, [5, 4, 3, 2, 1, 0] * 2)


class DancesOfOtherOrders(LedCase):
    def test_unlike_just_where_the_orders_are_others(self):
        for dancers, longest in ((2, 4), (3, 4), (4, 3)):
            dances = list(all_dances(dancers, longest))
            for one in dances:
                for other in dances:
                    if made(dancers, one) == made(dancers, other):
                        self.assert_led(dancers, one, other)
                    else:
                        self.assert_refused(Unlike, led, dancers, one, other)

    def test_unlike_of_long_dances(self):
        for dance in some_dances(7, 30, 30, 8):
            self.assert_refused(Unlike, led, 7, dance, dance[:29])
            self.assert_refused(Unlike, led, 7, dance[:29], dance)

    def test_every_order_is_unlike_the_others(self):
        orders = sorted(fewest_steps(4))
        dances = [all_shortest(list(order))[0] for order in orders]
        for one in dances:
            for other in dances:
                if one != other:
                    self.assert_refused(Unlike, led, 4, one, other)

    def test_bad_dance_goes_before_unlike(self):
        for value in no_dances(3):
            self.assert_refused(BadDance, led, 3, [0], value)
            self.assert_refused(BadDance, led, 3, value, [0])
        self.assert_refused(BadDance, led, 3, [0] * 31, [0, 0])
        self.assert_refused(BadDance, led, 3, [0, 0], [0] * 31)
