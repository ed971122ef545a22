"""Slow and plain readings of the document, to compare the program with."""

import itertools

MEASURES = ("items", "weight", "age", "kinds", "marks")


def measured_slowly(traffic, start, end):
    """Return the measures of a stretch, item by item as the definition says."""
    weight = age = marks = 0
    kinds = []
    for number in range(start, end):
        pause, heavy, kind, marked = traffic[number]
        weight += heavy
        age += pause if number > start else 0
        marks += 1 if marked else 0
        if kind not in kinds:
            kinds.append(kind)
    return (end - start, weight, age, len(kinds), marks)


def reached_slowly(traffic, condition, start, end):
    """Return whether a stretch reaches a condition, as the definition says."""
    word, rest = condition
    if word in MEASURES:
        return measured_slowly(traffic, start, end)[MEASURES.index(word)] >= rest
    reached = [reached_slowly(traffic, part, start, end) for part in rest]
    return True in reached if word == "any" else False not in reached


def next_slowly(traffic, rule, start, forced=()):
    """Return the next closing of a gap, gap by gap as the definition says."""
    goal, cap = rule
    many = len(traffic)
    for end in range(start + 1, many + 1):
        if end in forced or goal is not None and reached_slowly(traffic, goal, start, end):
            return end
        if cap is not None and end < many and reached_slowly(traffic, cap, start, end + 1):
            return end
    return None


def closings_slowly(traffic, rule, start=0, forced=()):
    """Return the closings from a start with forced closings."""
    found = []
    while next_slowly(traffic, rule, start, forced) is not None:
        start = next_slowly(traffic, rule, start, forced)
        found.append(start)
    return found


def rows_slowly(traffic, rule):
    """Return the closings from every start."""
    return [closings_slowly(traffic, rule, start) for start in range(len(traffic) + 1)]


def choices(gaps):
    """Return all strictly ascending lists of some of the gaps."""
    gaps = list(gaps)
    return [list(some) for many in range(len(gaps) + 1) for some in itertools.combinations(gaps, many)]


def is_at_or_below(clause, other):
    return all(number <= most for number, most in zip(clause, other))


def is_full(clause):
    """Return whether a tuple of five bounds is a full clause."""
    items, _, age, kinds, marks = clause
    return kinds >= 1 and items >= max(kinds, marks, 1) and (items >= 2 or age == 0)


def least_of(clauses):
    """Return the ascending list of the clauses without those above another one."""
    clauses = sorted(set(clauses))
    return [clause for clause in clauses if not any(is_at_or_below(o, clause) and o != clause for o in clauses)]


def holds(condition, measures):
    """Return whether a stretch with these measures reaches a condition."""
    word, rest = condition
    if word in MEASURES:
        return measures[MEASURES.index(word)] >= rest
    return (any if word == "any" else all)(holds(part, measures) for part in rest)


def clauses_slowly(condition, most):
    """Return the clauses of a condition whose bounds are at most so great, from all choices of bounds."""
    if condition is None:
        return []
    kept = []
    for clause in itertools.product(range(1, most + 1), *[range(most + 1)] * 4):
        # A clause stands behind all that are below it.
        if is_full(clause) and holds(condition, clause) and not any(is_at_or_below(low, clause) for low in kept):
            kept.append(clause)
    return kept


def form_slowly(rule, most):
    """Return the normal form of a rule and the clauses that go, in the three steps of the document."""
    goal = clauses_slowly(rule[0], most)
    cap = least_of((max(items, 2), *others) for items, *others in clauses_slowly(rule[1], most))
    kept_goal, idle_goal, kept_cap, idle_cap = [], [], [], []
    for clause in goal:
        goes = clause[0] >= 2 and any(is_at_or_below(other, clause) for other in cap)
        (idle_goal if goes else kept_goal).append(clause)
    for items, weight, age, kinds, marks in cap:
        ahead = (items - 1, 0, 0, max(kinds - 1, 1), max(marks - 1, 0))
        goes = any(is_at_or_below(other, ahead) for other in kept_goal)
        (idle_cap if goes else kept_cap).append((items, weight, age, kinds, marks))
    return (kept_goal, kept_cap), (idle_goal, idle_cap)
