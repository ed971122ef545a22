"""Closings with forced closings, and what these cost."""

from batchlimits.checks import is_within
from batchlimits.errors import InvalidGap
from batchlimits.items import check_gaps
from batchlimits.nexts import closings_from, nexts_of, with_forced


def closings_with(traffic, rule, forced):
    """Return the list of the closings from 0 with forced closings."""
    nexts = nexts_of(traffic, rule)
    check_gaps(traffic, forced)
    return closings_from(with_forced(nexts, forced), 0)


def added_by(traffic, rule, forced, gap):
    """Return how many more closings there are if one gap more is forced: 0 or 1."""
    nexts = nexts_of(traffic, rule)
    check_gaps(traffic, forced)
    if not is_within(gap, 1, len(traffic)):
        raise InvalidGap("a gap that is forced is an integer from 1 to the number of items")
    before = with_forced(nexts, forced)
    after = with_forced(before, [gap])
    return len(closings_from(after, 0)) - len(closings_from(before, 0))


def costs_of(traffic, rule):
    """Return for each gap from 1 on how many more closings there are if this gap alone is forced."""
    nexts = nexts_of(traffic, rule)
    behind = [0] * len(nexts)
    for gap in range(len(traffic) - 1, -1, -1):
        if nexts[gap] < len(nexts):
            behind[gap] = behind[nexts[gap]] + 1
    costs = []
    ahead = 0
    closing = nexts[0]
    for gap in range(1, len(nexts)):
        costs.append(ahead + 1 + behind[gap] - behind[0])
        if gap == closing:
            ahead += 1
            closing = nexts[gap]
    return costs


def fewest_forced(traffic, rule, told):
    """Return the list of the told gaps that are no closing from the told gap before, or from 0 for the first one."""
    nexts = nexts_of(traffic, rule)
    check_gaps(traffic, told)
    needed = []
    row_gap = 0
    for gap in told:
        while row_gap < gap:
            row_gap = nexts[row_gap]
        if row_gap != gap:
            needed.append(gap)
        row_gap = gap
    return needed


def is_enough(traffic, rule, told, forced):
    """Return whether all told gaps are closings with these forced closings."""
    nexts = nexts_of(traffic, rule)
    check_gaps(traffic, told)
    check_gaps(traffic, forced)
    found = closings_from(with_forced(nexts, forced), 0)
    return all([gap in found for gap in told])
