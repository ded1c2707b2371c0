"""Moves: shortest dances, what can be left out of the others, and the moves that lead one dance to another."""

from placechange.checks import MOST_STEPS, check_dance, is_step, is_whole
from placechange.errors import BadMove, Unlike
from placechange.orders import change, order_of


def crossings(dancers, dance):
    row = list(range(dancers))
    pairs = []
    for step in dance:
        pairs.append((min(row[step], row[step + 1]), max(row[step], row[step + 1])))
        change(row, step)
    return pairs


def left_out(dancers, dance):
    check_dance(dancers, dance)
    # Without the two steps at which a pair crosses, both dance each other's part between them,
    # and behind the second step all stand where they stood.
    crossed_at = {}
    for place, pair in enumerate(crossings(dancers, dance)):
        if pair in crossed_at:
            return (crossed_at[pair], place)
        crossed_at[pair] = place
    return None


def is_shortest(dancers, dance):
    return left_out(dancers, dance) is None


def is_move(dancers, move):
    if not isinstance(move, tuple) or len(move) < 2:
        return False
    if not isinstance(move[0], str) or not is_whole(move[1]):
        return False
    if move[0] == "in":
        return len(move) == 3 and is_step(dancers, move[2])
    return move[0] in ("trade", "plait", "out") and len(move) == 2


def apart(dance, at):
    return abs(dance[at] - dance[at + 1])


def can_be_done(dance, move):
    word = move[0]
    at = move[1]
    if at < 0:
        return False
    if word == "in":
        return at <= len(dance) and len(dance) + 2 <= MOST_STEPS
    if word == "plait":
        return at + 2 < len(dance) and apart(dance, at) == 1 and dance[at] == dance[at + 2]
    if word == "out":
        return at + 1 < len(dance) and apart(dance, at) == 0
    return at + 1 < len(dance) and apart(dance, at) >= 2


def done(dance, move):
    word = move[0]
    at = move[1]
    if word == "in":
        return dance[:at] + [move[2], move[2]] + dance[at:]
    if word == "plait":
        return dance[:at] + [dance[at + 1], dance[at], dance[at + 1]] + dance[at + 3:]
    if word == "out":
        return dance[:at] + dance[at + 2:]
    return dance[:at] + [dance[at + 1], dance[at]] + dance[at + 2:]


def moved(dancers, dance, move):
    check_dance(dancers, dance)
    if not is_move(dancers, move):
        raise BadMove("no move")
    if not can_be_done(dance, move):
        raise BadMove("a move that can't be done there")
    return done(dance, move)


def undoing(dance, move):
    if move[0] == "out":
        return ("in", move[1], dance[move[1]])
    # A trade and a plait undo themselves.
    return move


class Trail:
    # The way of a dance, kept in both directions.

    def __init__(self, dance):
        self.steps = list(dance)
        self.forth = []
        self.home = []

    def go(self, move):
        self.forth.append(move)
        self.home.append(undoing(self.steps, move))
        self.steps = done(self.steps, move)


# A settled dance is made of runs, one for each step that the dancers have, from the least step on: the run of a step
# goes down from it, one by one, to its low; the low of an empty run is one above its step. Each order has one settled
# dance alone. So two dances of one order meet there, and neither has grown on its way.


def settled_length(lows):
    return sum([step + 1 - low for step, low in enumerate(lows)])


def pass_run(trail, at, begin):
    # The step at this place goes ahead of the run that begins there. In the run stand, from its end on, steps that
    # trade with it, then at most once the step below it and the step itself, a plait with it, then such that trade.
    while at > begin:
        if apart(trail.steps, at - 1) >= 2:
            at -= 1
            trail.go(("trade", at))
        else:
            at -= 2
            trail.go(("plait", at))


def settle_next(trail, lows):
    at = settled_length(lows)
    top = len(lows) - 1
    # What has passed a run is less than the run's first step, so that the first run at the latest takes it.
    while trail.steps[at] not in (lows[top] - 1, lows[top]):
        begin = at - (top + 1 - lows[top])
        pass_run(trail, at, begin)
        at = begin
        top -= 1
    if trail.steps[at] < lows[top]:
        lows[top] -= 1
    else:
        trail.go(("out", at - 1))
        lows[top] += 1


def settled(dancers, dance):
    trail = Trail(dance)
    lows = list(range(1, dancers))
    while settled_length(lows) < len(trail.steps):
        settle_next(trail, lows)
    return trail


def led(dancers, one, other):
    if order_of(dancers, one) != order_of(dancers, other):
        raise Unlike("the dances make other orders")
    there = settled(dancers, one)
    here = settled(dancers, other)
    # What both do alike at the end would only be done and undone.
    while there.home and here.home and there.home[-1] == here.home[-1]:
        there.forth.pop()
        there.home.pop()
        here.home.pop()
    return there.forth + list(reversed(here.home))
