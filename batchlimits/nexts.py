"""For each gap of a traffic its next closing, and the rows that follow from it.

The next closings of all gaps are a list with n + 1 places. Where there is none, it holds n + 1: later than every gap.
"""

from batchlimits.ends import first_ends
from batchlimits.items import check_traffic
from batchlimits.rules import check_rule


def goal_gaps(traffic, goal):
    """Return for each gap the least gap behind it at which the goal closes."""
    if goal is None:
        return [len(traffic) + 1] * (len(traffic) + 1)
    return first_ends(traffic, goal)


def cap_gaps(traffic, cap):
    """Return for each gap the least gap behind it at which the cap closes."""
    many = len(traffic)
    gaps = [many + 1] * (many + 1)
    if cap is None:
        return gaps
    for start, end in enumerate(first_ends(traffic, cap)):
        # It closes ahead of the item with which it would be reached, but not ahead of the first one of the batch.
        gap = max(end - 1, start + 1)
        # At the end of the traffic no next item comes.
        if gap < many:
            gaps[start] = gap
    return gaps


def next_gaps(traffic, rule):
    """Return the next closings of all gaps of what are known to be a traffic and a rule."""
    goal, cap = rule
    goals = goal_gaps(traffic, goal)
    if cap is None:
        return goals
    caps = cap_gaps(traffic, cap)
    return [min(gaps) for gaps in zip(goals, caps)]


def nexts_of(traffic, rule):
    """Return the next closings of all gaps; raise InvalidTraffic or InvalidRule where an argument is wrong."""
    check_traffic(traffic)
    check_rule(rule)
    return next_gaps(traffic, rule)


def gap_or_none(nexts, gap):
    """Return a gap, or None in the place of one that is later than every gap."""
    return gap if gap < len(nexts) else None


def closings_from(nexts, start):
    """Return the list of the closings from a start."""
    found = []
    gap = nexts[start]
    while gap < len(nexts):
        found.append(gap)
        gap = nexts[gap]
    return found


def rest_start(closings):
    """Return the gap at which the rest begins: the last of the closings, or 0."""
    return closings[-1] if closings else 0


def with_forced(nexts, forced):
    """Return the next closings of all gaps with forced closings besides."""
    merged = list(nexts)
    start = 0
    for gap in forced:
        for earlier in range(start, gap):
            merged[earlier] = min(merged[earlier], gap)
        start = gap
    return merged
