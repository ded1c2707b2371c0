"""Shortest dances, what can be left out, and single moves: promises [3], [4] and [6]."""

import random
from unittest.mock import ANY

from placechange.errors import BadDance, BadMove
from placechange.moves import is_shortest, led, left_out, moved
from placechange.orders import last, shortest
from tests.refusing import RefusingCase
from tests.samples import (
    VAST, all_dances, all_orders, fewest_steps, grown, made, no_counts, no_dances, no_lists, no_whole_numbers,
    some_dances, some_orders, some_shortest,
)


class WhichAreShortest(RefusingCase):
    def test_told_cases(self):
        for dancers, dance in ((1, []), (7, []), (2, [0]), (3, [0, 1, 0]), (3, [1, 0, 1]), (4, [0, 2, 1])):
            self.assertIs(is_shortest(dancers, dance), True)
        for dancers, dance in ((2, [0, 0]), (3, [0, 1, 0, 1]), (4, [0, 2, 0]), (4, [1, 2, 2]), (7, [5] * 30)):
            self.assertIs(is_shortest(dancers, dance), False)

    def test_all_short_dances(self):
        for dancers, longest in ((1, 3), (2, 5), (3, 7), (4, 7), (5, 5)):
            fewest = fewest_steps(dancers)
            for dance in all_dances(dancers, longest):
                wanted = len(dance) == fewest[tuple(made(dancers, dance))]
                self.assertIs(is_shortest(dancers, dance), wanted)

    def test_shortest_ones_of_many_dancers(self):
        chance = random.Random(1)
        for dancers in (5, 6, 7):
            for order in some_orders(dancers, 50, dancers) + [last(dancers)]:
                dance = some_shortest(order, chance)
                self.assertIs(is_shortest(dancers, dance), True)
                self.assertIs(is_shortest(dancers, grown(dancers, dance, 30, chance)), False)
                self.assertIs(is_shortest(dancers, grown(dancers, dance, len(dance) + 2, chance)), False)

    def test_a_step_behind_tells_where_a_shortest_one_ends(self):
        for order in some_orders(7, 100, 3):
            for step in range(6):
                self.assertIs(is_shortest(7, shortest(order) + [step]), order[step] < order[step + 1])


class WhatCanBeLeftOut(RefusingCase):
    def assert_left_out(self, dancers, dance):
        places = left_out(dancers, dance)
        self.assertIs(type(places), tuple)
        self.assertEqual([type(place) for place in places], [int, int])
        self.assertTrue(0 <= places[0] < places[1] < len(dance))
        others = [step for place, step in enumerate(dance) if place not in places]
        self.assertEqual(made(dancers, others), made(dancers, dance))

    def test_told_cases(self):
        self.assertIsNone(left_out(1, []))
        self.assertIsNone(left_out(7, []))
        self.assertIsNone(left_out(3, [0, 1, 0]))
        self.assertEqual(left_out(2, [0, 0]), (0, 1))
        self.assertEqual(left_out(4, [0, 2, 0]), (0, 2))
        self.assertEqual(left_out(3, [0, 1, 0, 1]), (0, 3))

    def test_all_short_dances(self):
        for dancers, longest in ((2, 5), (3, 7), (4, 7), (5, 5)):
            fewest = fewest_steps(dancers)
            for dance in all_dances(dancers, longest):
                if len(dance) == fewest[tuple(made(dancers, dance))]:
                    self.assertIsNone(left_out(dancers, dance))
                else:
                    self.assert_left_out(dancers, dance)

    def test_long_dances(self):
        for dancers in range(2, 8):
            for length in (22, 29, 30):
                for dance in some_dances(dancers, 40, length, length):
                    self.assert_left_out(dancers, dance)

    def test_left_out_again_and_again_a_shortest_one_stays(self):
        for dance in some_dances(7, 20, 30, 9):
            left = dance
            while left_out(7, left) is not None:
                places = left_out(7, left)
                left = [step for place, step in enumerate(left) if place not in places]
            self.assertEqual(len(left), len(shortest(made(7, dance))))
            self.assertEqual(made(7, left), made(7, dance))


def wanted_of(dancers, dance, move):
    """What the move makes, as the document tells it; None where it can't be done."""
    word, at = move[0], move[1]
    if word == "in":
        if at in range(len(dance) + 1) and move[2] in range(dancers - 1) and len(dance) <= 28:
            return dance[:at] + [move[2]] * 2 + dance[at:]
        return None
    if at not in range(len(dance)):
        return None
    ahead, behind = dance[:at], dance[at:]
    if word == "trade" and len(behind) >= 2 and behind[1] - behind[0] not in (-1, 0, 1):
        return ahead + behind[1::-1] + behind[2:]
    if word == "plait" and len(behind) >= 3 and behind[0] == behind[2] and behind[1] - behind[0] in (-1, 1):
        return ahead + [behind[1]] + behind[:2] + behind[3:]
    if word == "out" and behind[:2] == behind[:1] * 2:
        return ahead + behind[2:]
    return None


def moves_about(dancers, dance):
    places = list(range(-3, len(dance) + 4))
    moves = [(word, at) for word in ("trade", "plait", "out") for at in places]
    return moves + [("in", at, step) for at in places for step in range(-2, dancers + 2)]


class SingleMoves(RefusingCase):
    def assert_as_wanted(self, dancers, dance, move):
        wanted = wanted_of(dancers, dance, move)
        if wanted is None:
            self.assert_refused(BadMove, moved, dancers, dance, move)
        else:
            self.assertEqual(moved(dancers, dance, move), wanted)
            self.assertEqual(made(dancers, wanted), made(dancers, dance))

    def test_trades(self):
        self.assertEqual(moved(4, [0, 2, 1], ("trade", 0)), [2, 0, 1])
        self.assertEqual(moved(4, [1, 2, 0], ("trade", 1)), [1, 0, 2])
        self.assertEqual(moved(7, [5, 0], ("trade", 0)), [0, 5])
        for dance, at in (([0, 2, 1], 1), ([0, 2, 1], 2), ([0, 2], 1), ([0, 2], -1), ([0, 0], 0), ([], 0), ([2, 1], 0)):
            self.assert_refused(BadMove, moved, 4, dance, ("trade", at))

    def test_plaits(self):
        self.assertEqual(moved(3, [0, 1, 0], ("plait", 0)), [1, 0, 1])
        self.assertEqual(moved(3, [1, 0, 1], ("plait", 0)), [0, 1, 0])
        self.assertEqual(moved(4, [0, 2, 1, 2, 0], ("plait", 1)), [0, 1, 2, 1, 0])
        self.assertEqual(moved(4, [0, 0, 1, 2, 1], ("plait", 2)), [0, 0, 2, 1, 2])
        cases = (([0, 1, 0], 1), ([0, 1, 0], -1), ([0, 1, 0], 3), ([0, 2, 0], 0), ([0, 0, 0], 0), ([0, 1, 2], 0))
        for dance, at in cases + (([0, 1], 0), ([], 0), ([1, 0, 1, 0], -3), ([2, 1, 0], 0)):
            self.assert_refused(BadMove, moved, 4, dance, ("plait", at))

    def test_outs(self):
        self.assertEqual(moved(2, [0, 0], ("out", 0)), [])
        self.assertEqual(moved(3, [1, 1, 0], ("out", 0)), [0])
        self.assertEqual(moved(3, [1, 0, 0], ("out", 1)), [1])
        self.assertEqual(moved(2, [0] * 30, ("out", 28)), [0] * 28)
        for dance, at in (([0, 0], 1), ([0, 0], -1), ([0, 0], 2), ([0, 1], 0), ([0], 0), ([], 0), ([0, 1, 0], 0)):
            self.assert_refused(BadMove, moved, 3, dance, ("out", at))
        self.assert_refused(BadMove, moved, 2, [0] * 30, ("out", 29))

    def test_ins(self):
        self.assertEqual(moved(2, [], ("in", 0, 0)), [0, 0])
        self.assertEqual(moved(4, [0, 1], ("in", 0, 2)), [2, 2, 0, 1])
        self.assertEqual(moved(4, [0, 1], ("in", 1, 2)), [0, 2, 2, 1])
        self.assertEqual(moved(4, [0, 1], ("in", 2, 2)), [0, 1, 2, 2])
        for move in (("in", 3, 0), ("in", -1, 0), ("in", 0, 3), ("in", 0, -1), ("in", VAST, 0), ("in", 0, VAST)):
            self.assert_refused(BadMove, moved, 4, [0, 1], move)
        self.assert_refused(BadMove, moved, 1, [], ("in", 0, 0))

    def test_an_in_makes_thirty_steps_at_the_most(self):
        for at in (0, 14, 28):
            self.assertEqual(len(moved(4, [1] * 28, ("in", at, 2))), 30)
        for length in (29, 30):
            for at in (0, 14, length):
                self.assert_refused(BadMove, moved, 4, [1] * length, ("in", at, 2))

    def test_all_moves_about_all_short_dances(self):
        for dancers, longest in ((1, 0), (2, 4), (3, 5), (4, 4), (5, 3)):
            for dance in all_dances(dancers, longest):
                for move in moves_about(dancers, dance):
                    self.assert_as_wanted(dancers, dance, move)

    def test_all_moves_about_long_dances(self):
        for dancers in (2, 3, 4, 7):
            for length in (27, 28, 29, 30):
                for dance in some_dances(dancers, 4, length, dancers):
                    for move in moves_about(dancers, dance):
                        self.assert_as_wanted(dancers, dance, move)

    def test_places_far_beyond(self):
        for move in (("trade", VAST), ("plait", -VAST), ("out", VAST), ("out", -VAST), ("in", -VAST, 0)):
            self.assert_refused(BadMove, moved, 4, [0, 0, 2, 1, 2], move)


class WhatIsNoMove(RefusingCase):
    def assert_no_moves(self, moves):
        self.assert_each_refused(BadMove, moved, [(4, [0, 0, 2, 1, 2], move) for move in moves])

    def test_no_tuple(self):
        moves = [value for value in no_lists() if not isinstance(value, tuple)]
        moves.extend([["out", 0], ["in", 0, 0], [], "out", "in", {"out": 0}, {"out", 0}])
        self.assert_no_moves(moves)

    def test_too_few_and_too_many(self):
        self.assert_no_moves([(), ("out",), ("in",), ("in", 0), ("trade",), ("plait",)])
        self.assert_no_moves([("out", 0, 0), ("trade", 1, 0), ("plait", 2, 1), ("in", 0, 0, 0), ("out", 0, None)])
        self.assert_no_moves([("out", 0) + (0,) * 5000, (0,), (0, 0), (0, 0, 0)])

    def test_other_words(self):
        words = ["", "Out", "OUT", " out", "out ", "on", "trades", "plai", "ou", "outin", "t", b"out", ("out",), ["out"]]
        words.extend([0, 1, None, True, {}, ["in"], {"out"}, len, 0.0, VAST, ANY])
        # At the first place of these a trade, a plait and an out could be done, and an in at all of them.
        for dance in ([0, 2], [0, 1, 0], [0, 0]):
            handed = [(4, dance, (word, 0)) for word in words] + [(4, dance, (word, 0, 0)) for word in words]
            self.assert_each_refused(BadMove, moved, handed)

    def test_a_place_that_is_no_whole_number(self):
        for value in no_whole_numbers():
            self.assert_no_moves([("out", value), ("trade", value), ("plait", value), ("in", value, 0)])

    def test_true_and_false_are_no_places(self):
        self.assert_refused(BadMove, moved, 4, [0, 0], ("out", False))
        self.assert_refused(BadMove, moved, 4, [1, 0, 0], ("out", True))
        self.assert_refused(BadMove, moved, 4, [0, 2], ("trade", False))
        self.assert_refused(BadMove, moved, 4, [1, 2, 1], ("plait", False))

    def test_a_step_that_is_no_whole_number(self):
        self.assert_no_moves([("in", 0, value) for value in no_whole_numbers()])

    def test_bad_dance_goes_before_bad_move(self):
        for move in (None, ("out", 9), ("other", 0), ()):
            self.assert_refused(BadDance, moved, 0, [], move)
            self.assert_refused(BadDance, moved, 3, [2], move)
            self.assert_refused(BadDance, moved, 3, None, move)
            self.assert_refused(BadDance, moved, 3, [0] * 31, move)
            self.assert_refused(BadMove, moved, 3, [1], move)


class OfEveryFunction(RefusingCase):
    def test_what_is_no_dance_is_refused(self):
        for dancers in range(1, 8):
            for value in no_dances(dancers):
                self.assert_refused(BadDance, is_shortest, dancers, value)
                self.assert_refused(BadDance, left_out, dancers, value)
                self.assert_refused(BadDance, moved, dancers, value, ("in", 0, 0))
                self.assert_refused(BadDance, led, dancers, value, [])
                self.assert_refused(BadDance, led, dancers, [], value)
                self.assert_refused(BadDance, led, dancers, value, value)

    def test_what_is_no_count_is_refused(self):
        for value in no_counts():
            self.assert_refused(BadDance, is_shortest, value, [])
            self.assert_refused(BadDance, left_out, value, [])
            self.assert_refused(BadDance, moved, value, [0, 0], ("out", 0))
            self.assert_refused(BadDance, led, value, [], [])

    def test_what_is_handed_in_stays(self):
        for order in all_orders(4):
            dance = shortest(order) + [0, 0]
            kept = list(dance)
            is_shortest(4, dance)
            left_out(4, dance)
            moved(4, dance, ("out", len(dance) - 2))
            moved(4, dance, ("in", 0, 2))
            other = shortest(order)
            led(4, dance, other)
            led(4, other, dance)
            self.assertEqual(dance, kept)
            self.assertEqual(other, kept[:-2])

    def test_what_is_told_is_the_askers_own(self):
        asks = [(moved, (4, [0, 2], ("trade", 0))), (moved, (4, [0, 1, 0], ("plait", 0)))]
        asks.extend([(moved, (4, [0, 0], ("out", 0))), (moved, (4, [0], ("in", 1, 2)))])
        asks.extend([(led, (4, [0, 1, 0], [1, 0, 1])), (led, (4, [0], [0])), (led, (4, [], []))])
        asks.append((led, (4, [0, 0, 2], [2])))
        for asked, handed in asks:
            told = asked(*handed)
            self.assertIs(type(told), list)
            kept = list(told)
            told.append("other")
            told[0] = None
            self.assertEqual(asked(*handed), kept)
