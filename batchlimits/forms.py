"""Clauses of conditions, normal forms of rules, and what they tell about two rules.

A clause is a tuple of five bounds in the order of the measures: items, weight, age, kinds, marks.
"""

from batchlimits.rules import check_condition, check_rule

LETTERS = "abcdefghijklmnopqrstuvwxyz"


def is_at_or_below(clause, other):
    """Return whether no number of a clause is greater than that of another one."""
    return all([number <= most for number, most in zip(clause, other)])


def is_met(clauses, clause):
    """Return whether one of the clauses is at or below a clause."""
    return any([is_at_or_below(other, clause) for other in clauses])


def least_clauses(clauses):
    """Return the ascending list of the clauses without those above another one."""
    kept = []
    # What is below a clause stands ahead of it in this order.
    for clause in sorted(clauses):
        if not is_met(kept, clause):
            kept.append(clause)
    return kept


def limit_clause(measure, bound):
    """Return the least full clause with this bound."""
    if measure == "items":
        return (bound, 0, 0, 1, 0)
    if measure == "weight":
        return (1, bound, 0, 1, 0)
    if measure == "age":
        return (2, 0, bound, 1, 0)
    if measure == "kinds":
        return (bound, 0, 0, bound, 0)
    return (bound, 0, 0, 1, bound)


def joined_clause(clause, other):
    """Return the least full clause that is at or above two full clauses: the greatest numbers are a full clause."""
    return tuple([max(pair) for pair in zip(clause, other)])


def found_clauses(condition):
    """Return the clauses of what is known to be a condition."""
    word, rest = condition
    if word != "any" and word != "all":
        return [limit_clause(word, rest)]
    found = found_clauses(rest[0])
    for part in rest[1:]:
        others = found_clauses(part)
        if word == "any":
            found = least_clauses(found + others)
        else:
            found = least_clauses([joined_clause(clause, other) for clause in found for other in others])
    return found


def clauses_of(condition):
    """Return the clauses of a condition, an ascending list of full clauses, none at or below another one."""
    check_condition(condition)
    return found_clauses(condition)


def all_clauses(rule):
    """Return the clauses of the goal and those of the cap with at least two items."""
    goal, cap = rule
    goal_clauses = [] if goal is None else found_clauses(goal)
    cap_clauses = [] if cap is None else found_clauses(cap)
    # A single item that reaches the cap is closed when a next item comes, as if the cap had been reached with it.
    raised = [(max(clause[0], 2), *clause[1:]) for clause in cap_clauses]
    return (goal_clauses, least_clauses(raised))


def without_last(clause):
    """Return what a stretch has at least without the item with which it reaches a cap clause."""
    items, weight, age, kinds, marks = clause
    return (items - 1, 0, 0, max(kinds - 1, 1), max(marks - 1, 0))


def is_capped(clause, cap):
    """Return whether the cap closes one gap ahead of where a goal clause is reached."""
    return clause[0] >= 2 and is_met(cap, clause)


def form_of(rule):
    """Return the normal form of what is known to be a rule."""
    goal, cap = all_clauses(rule)
    kept_goal = [clause for clause in goal if not is_capped(clause, cap)]
    # Where the goal is reached without the last item, it has closed already.
    kept_cap = [clause for clause in cap if not is_met(kept_goal, without_last(clause))]
    return (kept_goal, kept_cap)


def normal_form(rule):
    """Return the normal form of a rule, a tuple (goal, cap) of two ascending lists of clauses."""
    check_rule(rule)
    return form_of(rule)


def idle_clauses(rule):
    """Return the clauses that are not in the normal form, a tuple (goal, cap) of two ascending lists."""
    check_rule(rule)
    goal, cap = all_clauses(rule)
    kept_goal, kept_cap = form_of(rule)
    idle_goal = [clause for clause in goal if clause not in kept_goal]
    return (idle_goal, [clause for clause in cap if clause not in kept_cap])


def later_clauses(form, other):
    """Return the clauses of another normal form at which this one can close later."""
    goal, cap = form
    other_goal, other_cap = other
    found = [clause for clause in other_goal if not is_met(goal, clause) and not is_capped(clause, cap)]
    for clause in other_cap:
        if not is_met(cap, clause) and not is_met(goal, without_last(clause)):
            found.append(clause)
    return found


def kind_name(number):
    """Return a kind for a number from 0 on, a different one for each."""
    return LETTERS[number % len(LETTERS)] * (number // len(LETTERS) + 1)


def least_traffic(clause):
    """Return a traffic with just these measures, in which all that can wait comes with the last item."""
    items, weight, age, kinds, marks = clause
    traffic = []
    for number in range(items - 1):
        kind = kind_name(number if number < kinds - 1 else 0)
        traffic.append((0, 0, kind, number < marks - 1))
    traffic.append((age, weight, kind_name(kinds - 1), marks > 0))
    return traffic


def are_alike(rule, other):
    """Return whether two rules have the same closings on all traffic."""
    check_rule(rule)
    check_rule(other)
    return form_of(rule) == form_of(other)


def parting_traffic(rule, other):
    """Return a traffic on which the closings of two rules from 0 differ, or None if the rules are alike."""
    check_rule(rule)
    check_rule(other)
    form, other_form = form_of(rule), form_of(other)
    found = later_clauses(form, other_form) + later_clauses(other_form, form)
    return least_traffic(found[0]) if found else None


def is_never_later(rule, other):
    """Return whether no next closing by a rule is later than the one by another rule, on all traffic."""
    check_rule(rule)
    check_rule(other)
    return not later_clauses(form_of(rule), form_of(other))


def later_traffic(rule, other):
    """Return a traffic whose first closing by a rule is later than the one by another rule, or None."""
    check_rule(rule)
    check_rule(other)
    found = later_clauses(form_of(rule), form_of(other))
    return least_traffic(found[0]) if found else None
