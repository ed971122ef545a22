"""Closings far away on traffic that repeats without end.

Where the next closing of a far gap is depends on its place in the pattern alone. So a rule is told by its steps, the
distances from each place to the next closing, and each row of closings runs in rounds in the end. Whether a limit can
be reached depends on the pattern alone, too: from each place, or from none. Then there are no steps.
"""

from batchlimits.checks import GREATEST, is_within
from batchlimits.ends import kind_ends, sum_ends
from batchlimits.errors import InvalidGap, InvalidNumber, InvalidPattern, InvalidStretch
from batchlimits.items import is_traffic
from batchlimits.rules import check_rule

LONGEST_PATTERN = 20


def is_far_gap(value):
    """Return whether any value is a far gap."""
    return is_within(value, 0, GREATEST)


def check_pattern(pattern):
    """Raise InvalidPattern unless a value is a pattern."""
    if not is_traffic(pattern) or not 1 <= len(pattern) <= LONGEST_PATTERN:
        raise InvalidPattern("a pattern is a traffic of 1 to 20 items")


def check_start(pattern, rule, start):
    """Raise an error unless values are a pattern, a rule and a far gap."""
    check_pattern(pattern)
    check_rule(rule)
    if not is_far_gap(start):
        raise InvalidGap("a far gap is an integer from 0 to 10 ** 30")


def total_of(pattern, part, rounds, at):
    """Return the sum of what stands at one place of the items, over a part of the pattern and rounds of all of it."""
    return rounds * sum([item[at] for item in pattern]) + sum([item[at] for item in part])


def far_measures(pattern, start, end):
    """Return the measures of a stretch of the endless traffic."""
    check_pattern(pattern)
    if not is_far_gap(start) or not is_far_gap(end) or start >= end:
        raise InvalidStretch("a stretch has a start and an end that are far gaps, the start less than the end")
    rounds, left = divmod(end - start, len(pattern))
    place = start % len(pattern)
    twice = pattern + pattern
    part = twice[place:place + left]
    weight = total_of(pattern, part, rounds, 1)
    # The pause of the first item lies ahead of the stretch.
    age = total_of(pattern, part, rounds, 0) - pattern[place][0]
    different = pattern if rounds > 0 else part
    kinds = len({item[2] for item in different})
    return (end - start, weight, age, kinds, total_of(pattern, part, rounds, 3))


def sum_lengths(amounts, bound):
    """Return for each place how many amounts from it add up to the bound, or None if they never do."""
    total = sum(amounts)
    if total == 0:
        return None
    # What is left behind these rounds is at least 1, and at most what one more round adds.
    rounds = (bound - 1) // total
    ends = sum_ends(amounts + amounts, bound - rounds * total)
    return [end - place + rounds * len(amounts) for place, end in enumerate(ends[:len(amounts)])]


def kind_lengths(kinds, bound):
    """Return for each place how many items from it have so many different kinds, or None if there are fewer."""
    if len(set(kinds)) < bound:
        return None
    ends = kind_ends(kinds + kinds, bound)
    return [end - place for place, end in enumerate(ends[:len(kinds)])]


def age_lengths(pattern, bound):
    """Return for each place how many items from it have this age, or None if they never have."""
    # The pause of the first item lies ahead of the stretch, so all pauses move by one place.
    lengths = sum_lengths([item[0] for item in pattern[1:] + pattern[:1]], bound)
    return None if lengths is None else [length + 1 for length in lengths]


def limit_lengths(pattern, measure, bound):
    """Return for each place how many items from it reach a limit, or None if no stretch reaches it."""
    if measure == "items":
        return [bound] * len(pattern)
    if measure == "weight":
        return sum_lengths([item[1] for item in pattern], bound)
    if measure == "age":
        return age_lengths(pattern, bound)
    if measure == "kinds":
        return kind_lengths([item[2] for item in pattern], bound)
    return sum_lengths([item[3] for item in pattern], bound)


def lengths_of(pattern, condition):
    """Return for each place how many items from it reach a condition, or None if no stretch reaches it."""
    word, rest = condition
    if word != "any" and word != "all":
        return limit_lengths(pattern, word, rest)
    columns = [lengths_of(pattern, part) for part in rest]
    found = [column for column in columns if column is not None]
    if word == "any":
        return [min(lengths) for lengths in zip(*found)] if found else None
    return [max(lengths) for lengths in zip(*found)] if len(found) == len(columns) else None


def steps_of(pattern, rule):
    """Return for each place the distance to the next closing, or None if the rule never closes."""
    goal, cap = rule
    goals = None if goal is None else lengths_of(pattern, goal)
    caps = None if cap is None else lengths_of(pattern, cap)
    if caps is None:
        return goals
    # It closes ahead of the item with which it would be reached, but not ahead of the first one of the batch.
    steps = [max(length - 1, 1) for length in caps]
    return steps if goals is None else [min(lengths) for lengths in zip(goals, steps)]


def round_from(steps, start):
    """Return a row up to the gap at which a place comes again, and the number of the gap that had this place first."""
    gaps = []
    numbers = {}
    gap = start
    while gap % len(steps) not in numbers:
        numbers[gap % len(steps)] = len(gaps)
        gaps.append(gap)
        gap += steps[gap % len(steps)]
    first = numbers[gap % len(steps)]
    gaps.append(gap)
    return (gaps, first)


def numbered_gap(steps, start, number):
    """Return the closing with a number of the row from a gap; the number 0 is that of the gap itself."""
    gaps, first = round_from(steps, start)
    if number < first:
        return gaps[number]
    rounds, turn = divmod(number - first, len(gaps) - 1 - first)
    return gaps[first + turn] + rounds * (gaps[-1] - gaps[first])


def count_to(steps, start, end):
    """Return how many closings of the row from a gap are at most the end."""
    gaps, first = round_from(steps, start)
    if end < gaps[first]:
        return len([gap for gap in gaps[1:first] if gap <= end])
    rounds, left = divmod(end - gaps[first], gaps[-1] - gaps[first])
    reached = [gap for gap in gaps[first + 1:-1] if gap - gaps[first] <= left]
    return first + rounds * (len(gaps) - 1 - first) + len(reached)


def far_closing(pattern, rule, start):
    """Return the next closing of a far gap, or None."""
    check_start(pattern, rule, start)
    steps = steps_of(pattern, rule)
    return None if steps is None else start + steps[start % len(pattern)]


def nth_closing(pattern, rule, start, number):
    """Return the closing with a number, counted from 1, of the row from a far gap, or None."""
    check_start(pattern, rule, start)
    if not is_within(number, 1, GREATEST):
        raise InvalidNumber("closings have numbers from 1 to 10 ** 30")
    steps = steps_of(pattern, rule)
    return None if steps is None else numbered_gap(steps, start, number)


def count_closings(pattern, rule, start, end):
    """Return how many closings of the row from a far gap are at most the end."""
    check_start(pattern, rule, start)
    if not is_far_gap(end) or end < start:
        raise InvalidGap("the end is a far gap that is not less than the start")
    steps = steps_of(pattern, rule)
    return 0 if steps is None else count_to(steps, start, end)


def round_of(pattern, rule, start):
    """Return a tuple (first, closings, repetitions) that tells how the row from a far gap repeats, or None."""
    check_start(pattern, rule, start)
    steps = steps_of(pattern, rule)
    if steps is None:
        return None
    gaps, first = round_from(steps, start)
    return (first, len(gaps) - 1 - first, (gaps[-1] - gaps[first]) // len(pattern))


def meeting_of(steps, low, high):
    """Return the least gap that is in the rows of two gaps, or None if they never meet."""
    low = numbered_gap(steps, low, count_to(steps, low, high))
    known = {}
    # The rows take turns. If they have come to the same places at the same distance before, they never meet.
    while low != high and (low % len(steps), high - low) not in known:
        known[(low % len(steps), high - low)] = True
        low += steps[low % len(steps)]
        if low > high:
            low, high = high, low
    return low if low == high else None


def far_meeting(pattern, rule, first, second):
    """Return the least gap that is in the rows of two far gaps, or None."""
    check_start(pattern, rule, first)
    if not is_far_gap(second):
        raise InvalidGap("a far gap is an integer from 0 to 10 ** 30")
    steps = steps_of(pattern, rule)
    if steps is None:
        return first if first == second else None
    return meeting_of(steps, min(first, second), max(first, second))
