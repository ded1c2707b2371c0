"""Orders: what a dance makes, the crossed pairs, a shortest dance, the order back, the last one and the rest."""

from placechange.checks import check_count, check_dance, check_order


def change(row, step):
    ahead = row[step]
    row[step] = row[step + 1]
    row[step + 1] = ahead


def order_of(dancers, dance):
    check_dance(dancers, dance)
    row = list(range(dancers))
    for step in dance:
        change(row, step)
    return row


def crossed(order):
    check_order(order)
    pairs = []
    for place, dancer in enumerate(order):
        for behind in order[place + 1:]:
            if behind < dancer:
                pairs.append((behind, dancer))
    return sorted(pairs)


def shortest(order):
    check_order(order)
    row = list(order)
    steps = []
    # Each change here sets one crossed pair right and touches no other pair,
    # so that as many steps as there are crossed pairs lead to the first order.
    for end in range(len(row) - 1, 0, -1):
        for step in range(end):
            if row[step] > row[step + 1]:
                change(row, step)
                steps.append(step)
    steps.reverse()
    return steps


def back(order):
    check_order(order)
    places = list(order)
    for place, dancer in enumerate(order):
        places[dancer] = place
    return places


def last(dancers):
    check_count(dancers)
    return list(range(dancers - 1, -1, -1))


def rest(order):
    # Danced behind the order, the rest brings to place p whoever stands in the order at place rest[p].
    # This is to be the greatest dancer at place 0, and so on down: the order back, from its end on.
    places = back(order)
    places.reverse()
    return places
