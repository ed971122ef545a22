"""Rows of closings from several starts."""

from batchlimits.checks import is_within
from batchlimits.errors import InvalidGaps, InvalidNumber
from batchlimits.items import check_gap, is_gap
from batchlimits.nexts import closings_from, gap_or_none, nexts_of


def check_range(traffic, low, high):
    """Raise InvalidGaps unless two values are gaps of a traffic, the first one at most the second one."""
    if not is_gap(traffic, low) or not is_gap(traffic, high) or low > high:
        raise InvalidGaps("low and high are gaps from 0 to the number of items, low at most high")


def meeting(traffic, rule, first, second):
    """Return the least gap that is in the rows from both starts, or None."""
    nexts = nexts_of(traffic, rule)
    check_gap(traffic, first)
    check_gap(traffic, second)
    # The other row has already left the earlier gap behind. Rows that never meet both end behind all gaps.
    while first != second:
        if first < second:
            first = nexts[first]
        else:
            second = nexts[second]
    return gap_or_none(nexts, first)


def counts_of_starts(traffic, rule, low, high):
    """Return for each gap from how many of the starts from low to high it is a closing."""
    nexts = nexts_of(traffic, rule)
    check_range(traffic, low, high)
    # The last place takes the rows that have ended.
    counts = [0] * (len(nexts) + 1)
    for gap, closing in enumerate(nexts):
        counts[closing] += counts[gap] + (1 if low <= gap <= high else 0)
    return counts[:-1]


def certain_closings(traffic, rule, low, high):
    """Return the ascending list of the gaps that are closings from every start from low to high."""
    counts = counts_of_starts(traffic, rule, low, high)
    return [gap for gap, count in enumerate(counts) if count == high - low + 1]


def possible_closings(traffic, rule, low, high):
    """Return the ascending list of the gaps that are closings from some start from low to high."""
    counts = counts_of_starts(traffic, rule, low, high)
    return [gap for gap, count in enumerate(counts) if count > 0]


def numbered_closing(nexts, start, number):
    """Return the closing with a number, counted from 1, from a start, or None if there are fewer."""
    found = closings_from(nexts, start)
    return found[number - 1] if number <= len(found) else None


def kth_range(traffic, rule, low, high, number):
    """Return the least and the greatest closing with a number from the starts from low to high."""
    nexts = nexts_of(traffic, rule)
    check_range(traffic, low, high)
    if not is_within(number, 1):
        raise InvalidNumber("closings have numbers from 1 on")
    # No row overtakes another one, so the earliest and the latest start give the least and the greatest closing.
    return (numbered_closing(nexts, low, number), numbered_closing(nexts, high, number))


def starts_with(traffic, rule, gap):
    """Return the ascending list of the starts from which a gap is a closing."""
    nexts = nexts_of(traffic, rule)
    check_gap(traffic, gap)
    leads = [False] * (len(nexts) + 1)
    leads[gap] = True
    for start in range(gap - 1, -1, -1):
        leads[start] = leads[nexts[start]]
    return [start for start in range(gap) if leads[start]]
