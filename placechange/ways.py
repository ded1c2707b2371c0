"""Two orders: on the way, joined and met, within, never back; and how many shortest dances an order has."""

from placechange.checks import check_both, check_order
from placechange.orders import change, crossed, shortest


def on_way(one, other):
    check_both(one, other)
    pairs = crossed(other)
    return all([pair in pairs for pair in crossed(one)])


def with_all_between(dancers, pairs):
    # Where one between is crossed with the lesser and with the greater, the greater stands ahead of the one between
    # and so ahead of the lesser: an order that has both pairs crossed has that of the lesser and the greater, too.
    found = {}
    for pair in pairs:
        found[pair] = True
    for between in range(dancers):
        for lesser in range(between):
            for greater in range(between + 1, dancers):
                if (lesser, between) in found and (between, greater) in found:
                    found[(lesser, greater)] = True
    return found


def order_with(dancers, pairs):
    order = list(range(dancers))
    for dancer in range(dancers):
        greater_ahead = [greater for greater in range(dancer + 1, dancers) if (dancer, greater) in pairs]
        lesser_ahead = [lesser for lesser in range(dancer) if (lesser, dancer) not in pairs]
        order[len(greater_ahead) + len(lesser_ahead)] = dancer
    return order


def joined(one, other):
    check_both(one, other)
    dancers = len(one)
    return order_with(dancers, with_all_between(dancers, crossed(one) + crossed(other)))


def turned(order):
    return list(reversed(order))


def met(one, other):
    check_both(one, other)
    # Turned end to end, an order has just those pairs crossed that it hadn't, so that an order that was on the way to
    # another one has that one on the way to it: what is joined there is met here.
    return turned(joined(turned(one), turned(other)))


class Answer:
    pass


class Within(Answer):

    def __init__(self, dance, places):
        self.dance = list(dance)
        self.places = list(places)


class Beyond(Answer):

    def __init__(self, many, dancer):
        self.many = many
        self.dancer = dancer


def standing(order, many, dancer):
    return len([other for other in order[:many] if other >= dancer])


def beyond(one, other):
    for many in range(1, len(one)):
        for dancer in range(1, len(one)):
            if standing(one, many, dancer) > standing(other, many, dancer):
                return Beyond(many, dancer)
    return None


def places_within(one, dance):
    row = list(one)
    places = []
    # From the last step on: where it can be the last one of a shortest dance of what is left of the order, it is
    # taken. What is left is then within what the steps ahead make, whether the step was taken or not.
    for place in range(len(dance) - 1, -1, -1):
        step = dance[place]
        if row[step] > row[step + 1]:
            change(row, step)
            places.append(place)
    places.reverse()
    return places


def within(one, other):
    check_both(one, other)
    answer = beyond(one, other)
    if answer is None:
        dance = shortest(other)
        answer = Within(dance, places_within(one, dance))
    return answer


def never_back(one, other):
    check_both(one, other)
    row = list(one)
    for step in shortest(other):
        if row[step] < row[step + 1]:
            change(row, step)
    return row


def one_step_less(counts):
    # The ways down from several orders meet; they are counted together, and not gone one by one.
    fewer = {}
    for order, ways in counts.items():
        for step in range(len(order) - 1):
            if order[step] > order[step + 1]:
                row = list(order)
                change(row, step)
                fewer[tuple(row)] = fewer.get(tuple(row), 0) + ways
    return fewer


def how_many(order):
    check_order(order)
    counts = {tuple(order): 1}
    # All orders in hand have as many crossed pairs, so that all come to the first order at once.
    for pair in crossed(order):
        counts = one_step_less(counts)
    return sum(counts.values())
