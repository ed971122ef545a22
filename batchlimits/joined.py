"""Plans that keep joined items together.

For each gap the latest gap at or ahead of it that is not joined is known: a batch that would close at a joined gap
can close there instead, and it cannot if that gap is not behind its start.
"""

from batchlimits.checks import is_ascending
from batchlimits.errors import Blocked, InvalidGaps
from batchlimits.items import check_gaps, is_gap
from batchlimits.nexts import nexts_of


def check_joined(traffic, value):
    """Raise InvalidGaps unless a value is a list of joined gaps of a traffic."""
    if not is_ascending(value, len(traffic) - 1):
        raise InvalidGaps("joined gaps are a strictly ascending list of gaps from 1 to the number of items less one")


def latest_free(many, joined):
    """Return for each gap the latest gap at or ahead of it that is not joined."""
    latest = list(range(many + 1))
    for gap in joined:
        latest[gap] = latest[gap - 1]
    return latest


def checked_gaps(traffic, rule, joined):
    """Return the next closings of all gaps and, for all gaps, the latest gaps that are not joined."""
    nexts = nexts_of(traffic, rule)
    check_joined(traffic, joined)
    return (nexts, latest_free(len(traffic), joined))


def first_obstruction(nexts, latest):
    """Return the least gap behind which no closing is possible that is not joined, with its next closing, or None."""
    for gap, closing in enumerate(nexts):
        if closing < len(nexts) and latest[closing] <= gap:
            return (gap, closing)
    return None


def unblocked_gaps(traffic, rule, joined):
    """Return what checked_gaps returns; raise Blocked if there is no plan."""
    nexts, latest = checked_gaps(traffic, rule, joined)
    found = first_obstruction(nexts, latest)
    if found is not None:
        raise Blocked(found)
    return (nexts, latest)


def latest_plan(traffic, rule, joined):
    """Return the list of the closings of the latest plan."""
    nexts, latest = unblocked_gaps(traffic, rule, joined)
    plan = []
    gap = 0
    while nexts[gap] < len(nexts):
        gap = latest[nexts[gap]]
        plan.append(gap)
    return plan


def cheapest_steps(nexts, latest):
    """Return for each gap the closing behind it in a plan with the fewest forced closings."""
    steps = list(nexts)
    fewest = [0] * len(nexts)
    for gap in range(len(nexts) - 1, -1, -1):
        closing = nexts[gap]
        if closing == len(nexts):
            continue
        # A plan from a later gap needs one forced closing more at the most: then it can join that of an earlier gap.
        # So a next closing that is not joined is as good as each gap ahead of it, where a closing is forced.
        if latest[closing] == closing:
            fewest[gap] = fewest[closing]
            continue
        free = [(fewest[other], other) for other in range(gap + 1, closing) if latest[other] == other]
        least = min(free)
        steps[gap] = least[1]
        fewest[gap] = least[0] + 1
    return steps


def fewest_forced_plan(traffic, rule, joined):
    """Return a list of forced closings, as few as possible, with which no closing is joined."""
    nexts, latest = unblocked_gaps(traffic, rule, joined)
    steps = cheapest_steps(nexts, latest)
    forced = []
    gap = 0
    while nexts[gap] < len(nexts):
        if steps[gap] != nexts[gap]:
            forced.append(steps[gap])
        gap = steps[gap]
    return forced


def forced_in(traffic, rule, closings):
    """Return the list of those closings that are not the next closing of the one before."""
    nexts = nexts_of(traffic, rule)
    check_gaps(traffic, closings)
    forced = []
    before = 0
    for gap in closings:
        if gap > nexts[before]:
            raise InvalidGaps("a closing is behind the next closing of the one before")
        if gap < nexts[before]:
            forced.append(gap)
        before = gap
    if nexts[before] < len(nexts):
        raise InvalidGaps("the last closing has a next closing")
    return forced


def obstruction_of(traffic, rule, joined):
    """Return the obstruction (gap, next closing) with the least gap, or None."""
    nexts, latest = checked_gaps(traffic, rule, joined)
    return first_obstruction(nexts, latest)


def is_obstruction(traffic, rule, joined, value):
    """Return whether any value is an obstruction: a gap and its next closing, all gaps behind it up to that joined."""
    nexts, latest = checked_gaps(traffic, rule, joined)
    if not isinstance(value, tuple) or len(value) != 2:
        return False
    gap, closing = value
    if not is_gap(traffic, gap) or not is_gap(traffic, closing):
        return False
    return nexts[gap] == closing and latest[closing] <= gap


def count_plans(traffic, rule, joined):
    """Return the number of different lists of closings of all plans."""
    nexts, latest = checked_gaps(traffic, rule, joined)
    # For each gap the plans from all gaps from it on that are not joined, with one place more behind the last gap.
    sums = [0] * (len(nexts) + 1)
    for gap in range(len(nexts) - 1, -1, -1):
        sums[gap] = sums[gap + 1]
        if latest[gap] == gap:
            # Without a next closing, the plan may end here as well.
            ends = 1 if nexts[gap] == len(nexts) else 0
            sums[gap] += ends + sums[gap + 1] - sums[min(nexts[gap] + 1, len(nexts))]
    return sums[0] - sums[1]
