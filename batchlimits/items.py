"""Items and traffic: judging, measuring and repeating them."""

from batchlimits.checks import GREATEST, is_ascending, is_within
from batchlimits.errors import InvalidGap, InvalidGaps, InvalidNumber, InvalidStretch, InvalidTraffic, TooLarge

MOST_ITEMS = 40
MOST_LETTERS = 8


def are_items(values):
    """Return whether every value of a list is an item (pause, weight, kind, marked)."""
    # Each call that takes a traffic judges it anew, so this calls no function of its own for a part of an item.
    for value in values:
        if not isinstance(value, tuple) or len(value) != 4:
            return False
        pause, weight, kind, marked = value
        # To Python, True and False are integers, too.
        if not isinstance(pause, int) or pause is True or pause is False or not 0 <= pause <= GREATEST:
            return False
        if not isinstance(weight, int) or weight is True or weight is False or not 0 <= weight <= GREATEST:
            return False
        if not isinstance(kind, str) or len(kind) > MOST_LETTERS:
            return False
        # An empty string is not lower, either.
        if not kind.islower() or not kind.isalpha() or not kind.isascii():
            return False
        if marked is not True and marked is not False:
            return False
    return True


def is_item(value):
    """Return whether any value is an item."""
    return are_items([value])


def is_traffic(value):
    """Return whether any value is a traffic: a list of at most 40 items."""
    return isinstance(value, list) and len(value) <= MOST_ITEMS and are_items(value)


def check_traffic(traffic):
    """Raise InvalidTraffic unless a value is a traffic."""
    if not is_traffic(traffic):
        raise InvalidTraffic("a traffic is a list of at most 40 items (pause, weight, kind, marked)")


def is_gap(traffic, value):
    """Return whether any value is a gap of a traffic."""
    return is_within(value, 0, len(traffic))


def check_gap(traffic, value):
    """Raise InvalidGap unless a value is a gap of a traffic."""
    if not is_gap(traffic, value):
        raise InvalidGap("a gap is an integer from 0 to the number of items")


def check_gaps(traffic, value):
    """Raise InvalidGaps unless a value is a strictly ascending list of gaps of a traffic from 1 on."""
    if not is_ascending(value, len(traffic)):
        raise InvalidGaps("closings are a strictly ascending list of gaps from 1 to the number of items")


def check_stretch(traffic, start, end):
    """Raise InvalidStretch unless two values are gaps of a traffic, the first one less than the second one."""
    if not is_gap(traffic, start) or not is_gap(traffic, end) or start >= end:
        raise InvalidStretch("a stretch has a start and an end that are gaps, the start less than the end")


def times_of(traffic):
    """Return for each item the sum of the pauses of all items up to it, its own one included."""
    check_traffic(traffic)
    times = []
    total = 0
    for item in traffic:
        total += item[0]
        times.append(total)
    return times


def measured(stretch):
    """Return the measures of a stretch that is given as the list of its items."""
    weight = sum([item[1] for item in stretch])
    # The pause of the first item lies ahead of the stretch.
    age = sum([item[0] for item in stretch[1:]])
    kinds = len({item[2] for item in stretch})
    marks = sum([item[3] for item in stretch])
    return (len(stretch), weight, age, kinds, marks)


def measures_of(traffic, start, end):
    """Return the measures (items, weight, age, kinds, marks) of a stretch."""
    check_traffic(traffic)
    check_stretch(traffic, start, end)
    return measured(traffic[start:end])


def repeated(traffic, times):
    """Return the traffic of all items, so many times one after the other."""
    check_traffic(traffic)
    if not is_within(times, 0):
        raise InvalidNumber("a traffic is repeated an integer number of times, from 0 on")
    if len(traffic) * times > MOST_ITEMS:
        raise TooLarge(MOST_ITEMS)
    # Python refuses to repeat even an empty list too many times.
    if not traffic:
        return []
    return traffic * times
