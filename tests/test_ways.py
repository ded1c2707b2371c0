"""On the way, joined and met: promise [8]."""

import itertools
import random
import unittest

from placechange.orders import last
from placechange.ways import joined, met, on_way
from tests.samples import all_orders, all_shortest, danced, made, some_orders, some_shortest


def pairs_of(order):
    """The crossed pairs of the order, found by looking at each two of them."""
    pairs = itertools.combinations(range(len(order)), 2)
    return {pair for pair in pairs if order.index(pair[1]) < order.index(pair[0])}


def all_on_way(dancers):
    """For each order, as a tuple, all that are on the way to it: what the beginnings of its shortest dances make."""
    found = {}
    for order in all_orders(dancers):
        ahead = set()
        for dance in all_shortest(order):
            ahead.update(tuple(made(dancers, dance[:many])) for many in range(len(dance) + 1))
        found[tuple(order)] = ahead
    return found


def pairs_of_orders(dancers):
    orders = some_orders(dancers, 40, dancers) + [list(range(dancers)), last(dancers)]
    return itertools.product(orders, repeat=2)


class OnTheWay(unittest.TestCase):
    def test_told_cases(self):
        self.assertIs(on_way([0], [0]), True)
        self.assertIs(on_way([0, 1], [1, 0]), True)
        self.assertIs(on_way([1, 0], [0, 1]), False)
        self.assertIs(on_way([1, 0, 2], [1, 2, 0]), True)
        self.assertIs(on_way([1, 0, 2], [2, 0, 1]), False)
        self.assertIs(on_way([0, 2, 1], [2, 0, 1]), True)
        self.assertIs(on_way([0, 2, 1], [1, 2, 0]), False)
        self.assertIs(on_way([2, 0, 1], [2, 1, 0]), True)

    def test_all_pairs_up_to_four_begin_a_shortest_dance(self):
        for dancers in range(1, 5):
            ahead = all_on_way(dancers)
            for one, other in itertools.product(all_orders(dancers), repeat=2):
                self.assertIs(on_way(one, other), tuple(one) in ahead[tuple(other)])

    def test_all_pairs_of_five_by_their_crossed_pairs(self):
        orders = [(order, pairs_of(order)) for order in all_orders(5)]
        for (one, ones), (other, others) in itertools.product(orders, repeat=2):
            self.assertIs(on_way(one, other), ones <= others)

    def test_some_pairs_of_six_and_seven_by_their_crossed_pairs(self):
        for dancers in (6, 7):
            for one, other in pairs_of_orders(dancers):
                self.assertIs(on_way(one, other), pairs_of(one) <= pairs_of(other))

    def test_each_beginning_of_a_shortest_dance(self):
        chance = random.Random(8)
        for dancers in (5, 6, 7):
            for order in some_orders(dancers, 20, dancers) + [last(dancers)]:
                dance = some_shortest(order, chance)
                rows = [made(dancers, dance[:many]) for many in range(len(dance) + 1)]
                for early, late in itertools.combinations_with_replacement(range(len(rows)), 2):
                    self.assertIs(on_way(rows[early], rows[late]), True)
                    self.assertIs(on_way(rows[late], rows[early]), early == late)


class JoinedAndMet(unittest.TestCase):
    def test_told_cases(self):
        self.assertEqual(joined([0], [0]), [0])
        self.assertEqual(met([0], [0]), [0])
        self.assertEqual(joined([1, 0, 2], [0, 2, 1]), [2, 1, 0])
        self.assertEqual(met([1, 2, 0], [2, 0, 1]), [0, 1, 2])
        self.assertEqual(joined([1, 0, 2, 3], [0, 1, 3, 2]), [1, 0, 3, 2])
        self.assertEqual(met([1, 0, 3, 2], [1, 2, 3, 0]), [1, 0, 2, 3])
        self.assertEqual(joined([1, 2, 0], [1, 0, 2]), [1, 2, 0])
        self.assertEqual(met([1, 2, 0], [1, 0, 2]), [1, 0, 2])

    def test_all_pairs_up_to_four_by_the_meaning_of_the_words(self):
        for dancers in range(1, 5):
            ahead = all_on_way(dancers)
            for one, other in itertools.product(sorted(ahead), repeat=2):
                above = [order for order in ahead if one in ahead[order] and other in ahead[order]]
                wanted = [order for order in above if all(order in ahead[each] for each in above)]
                self.assertEqual([tuple(joined(list(one), list(other)))], wanted)
                below = ahead[one] & ahead[other]
                wanted = [order for order in below if below <= ahead[order]]
                self.assertEqual([tuple(met(list(one), list(other)))], wanted)

    def assert_by_crossed_pairs(self, one, other, all_pairs):
        either, both = pairs_of(one) | pairs_of(other), pairs_of(one) & pairs_of(other)
        above = [pairs for pairs in all_pairs if either <= pairs]
        self.assertEqual(pairs_of(joined(one, other)), set.intersection(*above))
        below = [pairs for pairs in all_pairs if pairs <= both]
        self.assertEqual(pairs_of(met(one, other)), set.union(*below))

    def test_some_pairs_of_five_to_seven_by_their_crossed_pairs(self):
        for dancers, many in ((5, 100), (6, 40), (7, 12)):
            all_pairs = [pairs_of(order) for order in all_orders(dancers)]
            for one, other in zip(some_orders(dancers, many, dancers), some_orders(dancers, many, dancers + 20)):
                self.assert_by_crossed_pairs(one, other, all_pairs)
                # Most orders have the last one joined or the first one met; those of few steps, or of all but few,
                # less often.
                near_first = danced(range(dancers), [1, 3, 2, 0])
                self.assert_by_crossed_pairs(near_first, other, all_pairs)
                self.assert_by_crossed_pairs(one, near_first[::-1], all_pairs)

    def test_both_are_on_the_way_of_five_to_seven(self):
        for dancers in (5, 6, 7):
            for one, other in pairs_of_orders(dancers):
                above, below = joined(one, other), met(one, other)
                self.assertEqual(sorted(above), list(range(dancers)))
                self.assertEqual(sorted(below), list(range(dancers)))
                for each in (one, other):
                    self.assertIs(on_way(each, above), True)
                    self.assertIs(on_way(below, each), True)
                self.assertEqual(met(above, one), one)
                self.assertEqual(joined(below, one), one)

    def test_the_same_whichever_is_handed_in_first(self):
        for dancers in range(1, 8):
            for one, other in pairs_of_orders(dancers):
                self.assertEqual(joined(one, other), joined(other, one))
                self.assertEqual(met(one, other), met(other, one))

    def test_with_the_first_the_last_and_itself(self):
        for dancers in range(1, 8):
            first, final = list(range(dancers)), last(dancers)
            for order in some_orders(dancers, 20, dancers):
                self.assertEqual([joined(order, first), met(order, first)], [order, first])
                self.assertEqual([joined(order, final), met(order, final)], [final, order])
                self.assertEqual([joined(order, order), met(order, list(order))], [order, order])
