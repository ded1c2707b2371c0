"""What is a count of dancers, an order, a dance; whatever else is handed in for one is refused.

The errors' words never show what was handed in: some values can't be written out.
"""

from placechange.errors import BadDance, BadOrder, Unlike

MOST_DANCERS = 7
MOST_STEPS = 30


def is_whole(value):
    # Python counts True and False among the whole numbers, the document doesn't.
    return isinstance(value, int) and not isinstance(value, bool)


def is_count(value):
    return is_whole(value) and 1 <= value <= MOST_DANCERS


def is_step(dancers, value):
    return is_whole(value) and 0 <= value < dancers - 1


def is_order(value):
    if not isinstance(value, list) or not is_count(len(value)):
        return False
    # Asked ahead of sorting: values of other kinds can't be sorted.
    if not all([is_whole(dancer) for dancer in value]):
        return False
    return sorted(value) == list(range(len(value)))


def is_dance(dancers, value):
    # The length first, so that of a list far too long no step is looked at.
    if not isinstance(value, list) or len(value) > MOST_STEPS:
        return False
    return all([is_step(dancers, step) for step in value])


def check_count(dancers):
    if not is_count(dancers):
        raise BadDance("no count of dancers")


def check_order(order):
    if not is_order(order):
        raise BadOrder("no order")


def check_both(one, other):
    check_order(one)
    check_order(other)
    if len(one) != len(other):
        raise Unlike("orders of other counts of dancers")


def check_dance(dancers, dance):
    check_count(dancers)
    if not is_dance(dancers, dance):
        raise BadDance("no dance of so many dancers")
