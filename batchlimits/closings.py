"""The closings and batches of a traffic by a rule."""

from batchlimits.checks import is_within
from batchlimits.errors import InvalidGap, InvalidItem
from batchlimits.items import check_gap, check_traffic, is_gap
from batchlimits.nexts import cap_gaps, closings_from, gap_or_none, goal_gaps, nexts_of, rest_start
from batchlimits.rules import check_rule


def next_closing(traffic, rule, start):
    """Return the next closing of a gap, or None."""
    nexts = nexts_of(traffic, rule)
    check_gap(traffic, start)
    return gap_or_none(nexts, nexts[start])


def closings(traffic, rule, *, start=0):
    """Return the list of the closings from a start."""
    nexts = nexts_of(traffic, rule)
    check_gap(traffic, start)
    return closings_from(nexts, start)


def rest_of(traffic, rule):
    """Return the gap at which the rest begins: the last closing from 0, or 0."""
    return rest_start(closings_from(nexts_of(traffic, rule), 0))


def reason_at(goal_gap, cap_gap):
    """Return why a batch closes whose goal and whose cap close first at these gaps."""
    if goal_gap == cap_gap:
        return "both"
    return "goal" if goal_gap < cap_gap else "cap"


def batches_of(traffic, rule):
    """Return the list of tuples (start, end, reason) of the batches from 0."""
    check_traffic(traffic)
    check_rule(rule)
    goal, cap = rule
    goals = goal_gaps(traffic, goal)
    caps = cap_gaps(traffic, cap)
    batches = []
    start = 0
    while min(goals[start], caps[start]) <= len(traffic):
        end = min(goals[start], caps[start])
        batches.append((start, end, reason_at(goals[start], caps[start])))
        start = end
    return batches


def reason_of(traffic, rule, gap):
    """Return why a batch closes at a closing from 0: "goal", "cap" or "both"."""
    reasons = {end: reason for start, end, reason in batches_of(traffic, rule)}
    if not is_gap(traffic, gap) or gap not in reasons:
        raise InvalidGap("the gap is none of the closings from 0")
    return reasons[gap]


def batch_of(traffic, rule, item):
    """Return the batch (start, end) that contains the item with a number; end is None for an item of the rest."""
    batches = batches_of(traffic, rule)
    if not is_within(item, 0, len(traffic) - 1):
        raise InvalidItem("an item has a number from 0 to the number of items less one")
    rest = 0
    for start, end, reason in batches:
        if item < end:
            return (start, end)
        rest = end
    return (rest, None)


def walk_batches(traffic, rule):
    """Yield a tuple (start, end, reason) for each batch from 0 on; all are found when the first one is requested."""
    found = batches_of(traffic, rule)
    for batch in found:
        yield batch
