"""Conditions and rules: judging them, joining conditions and reaching them."""

from batchlimits.checks import GREATEST, is_within
from batchlimits.ends import first_ends
from batchlimits.errors import InvalidCondition, InvalidRule, TooLarge
from batchlimits.items import check_gap, check_stretch, check_traffic, measured

MEASURES = ("items", "weight", "age", "kinds", "marks")
WIDE_MEASURES = ("weight", "age")
COMPOUND_WORDS = ("any", "all")
HIGHEST_COUNT = 40
MOST_LIMITS = 6


def is_measure(value):
    """Return whether any value is one of the five words for measures."""
    return isinstance(value, str) and value in MEASURES


def is_limit(value):
    """Return whether any value is a limit (measure, bound)."""
    if not isinstance(value, tuple) or len(value) != 2:
        return False
    measure, bound = value
    if not is_measure(measure):
        return False
    return is_within(bound, 1, GREATEST if measure in WIDE_MEASURES else HIGHEST_COUNT)


def is_compound(value):
    """Return whether any value has the form of an "any" or "all" with 2 to 6 parts, whatever these are."""
    if not isinstance(value, tuple) or len(value) != 2:
        return False
    word, parts = value
    if not isinstance(word, str) or word not in COMPOUND_WORDS:
        return False
    return isinstance(parts, list) and 2 <= len(parts) <= MOST_LIMITS


def is_condition(value):
    """Return whether any value is a condition."""
    pending = [value]
    limits = 0
    while pending:
        part = pending.pop()
        if is_limit(part):
            limits += 1
        elif is_compound(part):
            pending.extend(part[1])
        else:
            return False
        # Each pending part needs a limit. Stopping here ends soon even where one part occurs in many places.
        if limits + len(pending) > MOST_LIMITS:
            return False
    return True


def is_rule(value):
    """Return whether any value is a rule (goal, cap)."""
    if not isinstance(value, tuple) or len(value) != 2:
        return False
    return all([part is None or is_condition(part) for part in value])


def check_condition(condition):
    """Raise InvalidCondition unless a value is a condition."""
    if not is_condition(condition):
        raise InvalidCondition("a condition is a limit, or any or all of 2 to 6 conditions, with at most 6 limits")


def check_rule(rule):
    """Raise InvalidRule unless a value is a rule."""
    if not is_rule(rule):
        raise InvalidRule("a rule is a tuple (goal, cap), each of them a condition or None")


def copied(condition):
    """Return a new condition that is equal to this one."""
    word, rest = condition
    if word in MEASURES:
        return (word, rest)
    return (word, [copied(part) for part in rest])


def copied_rule(rule):
    """Return a new rule that is equal to this one."""
    goal, cap = rule
    return (None if goal is None else copied(goal), None if cap is None else copied(cap))


def listed_limits(condition):
    """Return the limits of what is known to be a condition, from left to right."""
    if condition[0] in MEASURES:
        return [condition]
    limits = []
    for part in condition[1]:
        limits.extend(listed_limits(part))
    return limits


def joined_by(word, conditions):
    """Return the condition that joins conditions by "any" or "all", or a single condition as it is."""
    if not conditions:
        raise InvalidCondition("there is no condition to join")
    for condition in conditions:
        check_condition(condition)
    # Each condition has a limit at least, so more than six conditions have more than six limits.
    if sum([len(listed_limits(condition)) for condition in conditions]) > MOST_LIMITS:
        raise TooLarge(MOST_LIMITS)
    parts = [copied(condition) for condition in conditions]
    return parts[0] if len(parts) == 1 else (word, parts)


def any_of(*conditions):
    """Return the condition that is reached if at least one of the conditions is."""
    return joined_by("any", conditions)


def all_of(*conditions):
    """Return the condition that is reached if each of the conditions is."""
    return joined_by("all", conditions)


def limits_of(condition):
    """Return the list of the limits of a condition, from left to right."""
    check_condition(condition)
    return listed_limits(condition)


def is_reached(condition, measures):
    """Return whether a stretch with these measures reaches what is known to be a condition."""
    word, rest = condition
    if word == "any":
        return any([is_reached(part, measures) for part in rest])
    if word == "all":
        return all([is_reached(part, measures) for part in rest])
    return measures[MEASURES.index(word)] >= rest


def reaches(traffic, condition, start, end):
    """Return whether the stretch from start to end reaches a condition."""
    check_traffic(traffic)
    check_condition(condition)
    check_stretch(traffic, start, end)
    return is_reached(condition, measured(traffic[start:end]))


def first_reach(traffic, condition, start):
    """Return the least end for which the stretch from start reaches a condition, or None."""
    check_traffic(traffic)
    check_condition(condition)
    check_gap(traffic, start)
    end = first_ends(traffic, condition)[start]
    return end if end <= len(traffic) else None
