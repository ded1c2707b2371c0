"""Promise [1] over the whole program: what is handed in, what is told, and what is refused."""

import copy
import inspect
import unittest

from placechange.columns import Columns, columns
from placechange.errors import BadDance, BadMove, BadOrder, BadText, Unlike
from placechange.moves import is_shortest, led, left_out, moved
from placechange.orders import back, crossed, last, order_of, rest, shortest
from placechange.texts import read, written
from placechange.ways import Answer, Beyond, Within, how_many, joined, met, never_back, on_way, within
from tests.refusing import RefusingCase
from tests.samples import all_orders, no_counts, no_dances, no_lists, no_orders, no_texts, some_dances

OF_ONE_ORDER = (crossed, shortest, back, rest, how_many)
OF_TWO_ORDERS = (on_way, joined, met, within, never_back)
OF_A_DANCE = (order_of, is_shortest, left_out, columns, written)


def asks():
    """Each function of the interface, with what is handed in."""
    found = [(last, [dancers]) for dancers in range(1, 8)]
    found.extend([(read, [7, text]) for text in ("", "0", "0 5 3", "1 1 1")])
    orders = all_orders(3) + all_orders(4)[::5]
    for order in orders:
        found.extend([(asked, [list(order)]) for asked in OF_ONE_ORDER])
        # One list handed in for both of them.
        found.extend([(asked, [list(order)] * 2) for asked in OF_TWO_ORDERS])
        for other in orders:
            if len(other) == len(order):
                found.extend([(asked, [list(order), list(other)]) for asked in OF_TWO_ORDERS])
    for dance in [[], [0], [2, 2], [0, 2, 1, 0, 2]] + some_dances(4, 5, 12, 1) + some_dances(4, 2, 30, 2):
        found.extend([(asked, [4, list(dance)]) for asked in OF_A_DANCE])
        found.append((led, [4, list(dance), list(dance)]))
    found.append((led, [4, [0, 1, 0, 2, 2], [1, 0, 1]]))
    for dance, move in (([0, 2], ("trade", 0)), ([1, 0, 1], ("plait", 0)), ([0, 0], ("out", 0)), ([1], ("in", 1, 2))):
        found.append((moved, [4, dance, move]))
    return found


def plain(value):
    """A copy of what was told, that can be held against another one: of an answer its class and its fields."""
    if isinstance(value, Answer):
        return (type(value), copy.deepcopy(vars(value)))
    return copy.deepcopy(value)


def spoil(value):
    """Changes each list within, as far as there are lists."""
    if isinstance(value, Answer):
        for field in vars(value).values():
            spoil(field)
    elif isinstance(value, list):
        for member in value:
            spoil(member)
        value.reverse()
        value.append("other")


def lists_within(value):
    if isinstance(value, Answer):
        return [found for field in vars(value).values() for found in lists_within(field)]
    if isinstance(value, list):
        return [value] + [found for member in value for found in lists_within(member)]
    return []


class WhatIsHandedInAndTold(unittest.TestCase):
    def test_what_is_handed_in_stays(self):
        for asked, handed in asks():
            kept = copy.deepcopy(handed)
            asked(*handed)
            self.assertEqual(handed, kept, asked.__name__)

    def test_what_is_told_stays_when_what_was_handed_in_is_changed(self):
        for asked, handed in asks():
            told = asked(*handed)
            kept = plain(told)
            for value in handed:
                spoil(value)
            self.assertEqual(plain(told), kept, asked.__name__)

    def test_what_was_handed_in_stays_when_what_is_told_is_changed(self):
        for asked, handed in asks():
            kept = copy.deepcopy(handed)
            spoil(asked(*handed))
            self.assertEqual(handed, kept, asked.__name__)

    def test_asked_again_it_tells_the_same(self):
        for asked, handed in asks():
            told = asked(*handed)
            kept = plain(told)
            spoil(told)
            self.assertEqual(plain(asked(*handed)), kept, asked.__name__)

    def test_no_list_is_told_twice(self):
        for asked, handed in asks():
            first, second = asked(*handed), asked(*handed)
            told = [id(value) for value in lists_within(first) + lists_within(second)]
            self.assertEqual(len(set(told)), len(told), asked.__name__)
            self.assertFalse(set(told) & {id(value) for value in handed}, asked.__name__)

    def test_the_samples_spoil_what_they_are_to(self):
        answer = columns(4, [0, 2, 1])
        spoil(answer)
        self.assertEqual(answer.columns, [[1, "other"], [2, 0, "other"], "other"])
        self.assertEqual(len(lists_within(answer)), 4)


class WhatAnAnswerIsMadeWith(unittest.TestCase):
    def test_it_is_not_kept(self):
        for made_by, handed in (
            (Within, [[0, 1], [1]]), (Within, [[], []]), (Columns, [[[0, 2], [1]], [1, 2]]), (Columns, [[], []]),
        ):
            answer = made_by(*handed)
            kept = plain(answer)
            for value in handed:
                spoil(value)
            self.assertEqual(plain(answer), kept, made_by.__name__)

    def test_it_is_not_changed(self):
        for made_by, handed in ((Within, [[0, 1], [1]]), (Columns, [[[0, 2], [1]], [1, 2]])):
            kept = copy.deepcopy(handed)
            spoil(made_by(*handed))
            self.assertEqual(handed, kept, made_by.__name__)

    def test_one_list_handed_in_twice_comes_to_be_two(self):
        steps = [0, 0]
        answer = Within(steps, steps)
        answer.dance.append(1)
        self.assertEqual(answer.places, [0, 0])
        answer = Columns([steps, steps], steps)
        answer.columns[0].append(1)
        self.assertEqual([answer.columns, answer.chain], [[[0, 0, 1], [0, 0]], [0, 0]])


class WhatIsRefused(RefusingCase):
    def test_what_is_no_order(self):
        for asked in OF_ONE_ORDER:
            self.assert_each_refused(BadOrder, asked, [(value,) for value in no_orders()])

    def test_what_is_no_order_beside_one(self):
        for asked in OF_TWO_ORDERS:
            for order in ([0], [1, 0], [2, 0, 1], [6, 5, 4, 3, 2, 1, 0]):
                self.assert_each_refused(BadOrder, asked, [(value, order) for value in no_orders()])
                self.assert_each_refused(BadOrder, asked, [(order, value) for value in no_orders()])
            self.assert_each_refused(BadOrder, asked, [(value, value) for value in no_orders()])
            self.assert_each_refused(BadOrder, asked, [(value, None) for value in no_orders()])

    def test_orders_of_other_counts_of_dancers(self):
        for asked in OF_TWO_ORDERS:
            for one in range(1, 8):
                for other in range(1, 8):
                    if one != other:
                        self.assert_refused(Unlike, asked, list(range(one)), list(range(other)))
                        self.assert_refused(Unlike, asked, last(one), last(other))

    def test_bad_order_goes_before_unlike(self):
        for asked in OF_TWO_ORDERS:
            self.assert_refused(BadOrder, asked, [0, 1, 2], [0, 0])
            self.assert_refused(BadOrder, asked, [0, 0], [0, 1, 2])
            self.assert_refused(BadOrder, asked, list(range(8)), [0])
            self.assert_refused(BadOrder, asked, [0], list(range(8)))
            self.assert_refused(BadOrder, asked, [0], [])
            self.assert_refused(BadOrder, asked, [], [0])

    def test_what_is_no_count(self):
        for value in no_counts():
            self.assert_refused(BadDance, last, value)
            for asked in OF_A_DANCE:
                self.assert_refused(BadDance, asked, value, [])
                self.assert_refused(BadDance, asked, value, None)
            self.assert_refused(BadDance, led, value, [], [])
            self.assert_refused(BadDance, led, value, None, [0])
            self.assert_refused(BadDance, moved, value, [], None)
            self.assert_refused(BadDance, read, value, "")
            self.assert_refused(BadDance, read, value, None)

    def test_what_is_no_dance(self):
        for dancers in range(1, 8):
            for value in no_dances(dancers):
                for asked in OF_A_DANCE:
                    self.assert_refused(BadDance, asked, dancers, value)
                self.assert_refused(BadDance, led, dancers, value, [])
                self.assert_refused(BadDance, led, dancers, [], value)
                self.assert_refused(BadDance, moved, dancers, value, None)

    def test_what_is_no_move_and_what_is_no_text(self):
        for dancers in range(1, 8):
            self.assert_each_refused(BadMove, moved, [(dancers, [], value) for value in no_lists()])
            self.assert_each_refused(BadText, read, [(dancers, value) for value in no_texts()])


class TheInterface(unittest.TestCase):
    def test_the_arguments_bear_the_names_told(self):
        for asked, names in (
            (order_of, ["dancers", "dance"]), (crossed, ["order"]), (shortest, ["order"]), (back, ["order"]),
            (last, ["dancers"]), (rest, ["order"]), (is_shortest, ["dancers", "dance"]),
            (left_out, ["dancers", "dance"]), (moved, ["dancers", "dance", "move"]),
            (led, ["dancers", "one", "other"]), (on_way, ["one", "other"]), (joined, ["one", "other"]),
            (met, ["one", "other"]), (within, ["one", "other"]), (never_back, ["one", "other"]),
            (how_many, ["order"]), (columns, ["dancers", "dance"]), (written, ["dancers", "dance"]),
            (read, ["dancers", "text"]), (Within, ["dance", "places"]), (Beyond, ["many", "dancer"]),
            (Columns, ["columns", "chain"]),
        ):
            self.assertEqual(list(inspect.signature(asked).parameters), names, asked.__name__)
