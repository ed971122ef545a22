"""Items and traffic: judging, measuring and repeating them."""

from batchlimits.checks import GREATEST, is_within
from batchlimits.errors import InvalidNumber, InvalidStretch, InvalidTraffic, TooLarge

MOST_ITEMS = 40
MOST_LETTERS = 8


def is_kind(value):
    """Return whether any value is a string of 1 to 8 lowercase letters."""
    if not isinstance(value, str) or not 1 <= len(value) <= MOST_LETTERS:
        return False
    return all(["a" <= letter <= "z" for letter in value])


def is_item(value):
    """Return whether any value is an item (pause, weight, kind, marked)."""
    if not isinstance(value, tuple) or len(value) != 4:
        return False
    pause, weight, kind, marked = value
    if not is_within(pause, 0, GREATEST) or not is_within(weight, 0, GREATEST):
        return False
    return is_kind(kind) and isinstance(marked, bool)


def is_traffic(value):
    """Return whether any value is a traffic: a list of at most 40 items."""
    if not isinstance(value, list) or len(value) > MOST_ITEMS:
        return False
    return all([is_item(part) for part in value])


def check_traffic(traffic):
    """Raise InvalidTraffic unless a value is a traffic."""
    if not is_traffic(traffic):
        raise InvalidTraffic("a traffic is a list of at most 40 items (pause, weight, kind, marked)")


def is_gap(traffic, value):
    """Return whether any value is a gap of a traffic."""
    return is_within(value, 0, len(traffic))


def check_stretch(traffic, start, end):
    """Raise InvalidStretch unless two values are gaps of a traffic, the first one less than the second one."""
    if not is_gap(traffic, start) or not is_gap(traffic, end) or start >= end:
        raise InvalidStretch("a stretch has a start and an end that are gaps, the start less than the end")


def times_of(traffic):
    """Return for each item the sum of the pauses of all items up to it, its own one included."""
    check_traffic(traffic)
    times = []
    total = 0
    for item in traffic:
        total += item[0]
        times.append(total)
    return times


def measured(stretch):
    """Return the measures of a stretch that is given as the list of its items."""
    weight = sum([item[1] for item in stretch])
    # The pause of the first item lies ahead of the stretch.
    age = sum([item[0] for item in stretch[1:]])
    kinds = len({item[2] for item in stretch})
    marks = len([item for item in stretch if item[3]])
    return (len(stretch), weight, age, kinds, marks)


def measures_of(traffic, start, end):
    """Return the measures (items, weight, age, kinds, marks) of a stretch."""
    check_traffic(traffic)
    check_stretch(traffic, start, end)
    return measured(traffic[start:end])


def repeated(traffic, times):
    """Return the traffic of all items, so many times one after the other."""
    check_traffic(traffic)
    if not is_within(times, 0):
        raise InvalidNumber("a traffic is repeated an integer number of times, from 0 on")
    if len(traffic) * times > MOST_ITEMS:
        raise TooLarge(MOST_ITEMS)
    # Python refuses to repeat even an empty list too many times.
    if not traffic:
        return []
    return traffic * times
