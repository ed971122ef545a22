"""Points 4, 11 and 29 to 34: clauses, normal forms, and what they tell about two rules."""

import itertools
import unittest

from batchlimits.closings import closings, next_closing
from batchlimits.forms import (
    are_alike, clauses_of, idle_clauses, is_never_later, later_traffic, normal_form, parting_traffic,
)
from batchlimits.items import is_traffic, measures_of
from batchlimits.rules import reaches
from tests.slow import MEASURES, clauses_slowly, form_slowly, is_at_or_below, is_full
from tests.test_rules import shapes
from tests.values import HUGE, condition_with, long_traffic, random_condition, random_rule, random_traffic, source

EDGE = {"items": 40, "weight": HUGE, "age": HUGE, "kinds": 40, "marks": 40}


def nearby(numbers, rule):
    """Return a rule that is often alike: with a limit more in the goal or the cap, or with these exchanged."""
    goal, cap = rule
    limit = condition_with(numbers, 1)
    return numbers.choice([
        (goal and ("any", [goal, limit]), cap), (goal, cap and ("all", [cap, limit])), (goal or limit, cap),
        (goal, cap or limit), (goal and ("any", [goal, ("all", [goal, limit])]), cap), (cap, goal), (goal, None),
        (goal, cap and ("any", [("all", [cap, limit]), cap])),
    ])


def random_pairs(seed, many):
    """Return pairs of rules, many of them alike or nearly so."""
    numbers = source(seed)
    pairs = []
    for _ in range(many):
        rule = random_rule(numbers, 2)
        pairs.append((rule, nearby(numbers, rule) if numbers.random() < 0.6 else random_rule(numbers, 4)))
    return pairs


def edge_rules():
    """Return rules with the least and the greatest bounds of all measures."""
    limits = [(measure, bound) for measure in MEASURES for bound in (1, 2, EDGE[measure])]
    some = [None, *limits, ("all", [(measure, EDGE[measure]) for measure in MEASURES])]
    some += [("all", [("kinds", 27), ("marks", 40), ("weight", HUGE)]), ("any", [("age", HUGE), ("items", 40)])]
    return [(goal, cap) for goal in some for cap in some]


class ClausesTest(unittest.TestCase):
    def test_limits(self):
        for bound in (1, 2, 7, 40):
            self.assertEqual(clauses_of(("items", bound)), [(bound, 0, 0, 1, 0)])
            self.assertEqual(clauses_of(("kinds", bound)), [(bound, 0, 0, bound, 0)])
            self.assertEqual(clauses_of(("marks", bound)), [(bound, 0, 0, 1, bound)])
        for bound in (1, 2, 41, HUGE):
            self.assertEqual(clauses_of(("weight", bound)), [(1, bound, 0, 1, 0)])
            self.assertEqual(clauses_of(("age", bound)), [(2, 0, bound, 1, 0)])

    def test_any_and_all(self):
        some = ("any", [("all", [("items", 3), ("weight", 5)]), ("marks", 2)])
        self.assertEqual(clauses_of(some), [(2, 0, 0, 1, 2), (3, 5, 0, 1, 0)])
        self.assertEqual(clauses_of(("any", [("items", 3), ("kinds", 3)])), [(3, 0, 0, 1, 0)])
        self.assertEqual(clauses_of(("all", [("age", 7), ("weight", 2)])), [(2, 2, 7, 1, 0)])
        self.assertEqual(clauses_of(("all", [("kinds", 3), ("marks", 2)])), [(3, 0, 0, 3, 2)])
        self.assertEqual(clauses_of(("all", [("items", 2), ("items", 5)])), [(5, 0, 0, 1, 0)])
        self.assertEqual(clauses_of(("any", [("items", 2), ("items", 2)])), [(2, 0, 0, 1, 0)])
        each = ("all", [(measure, 40) for measure in MEASURES])
        self.assertEqual(clauses_of(each), [(40, 40, 40, 40, 40)])

    def test_the_most_clauses(self):
        found = clauses_of(("all", [
            ("any", [("weight", 1), ("kinds", 9)]), ("any", [("age", 1), ("marks", 8)]),
            ("any", [("weight", 9), ("items", 30)]),
        ]))
        expected = [
            (2, 9, 1, 1, 0), (8, 9, 0, 1, 8), (9, 9, 0, 9, 8), (9, 9, 1, 9, 0),
            (30, 1, 0, 1, 8), (30, 1, 1, 1, 0), (30, 0, 0, 9, 8), (30, 0, 1, 9, 0),
        ]
        # Those with a weight of 9 already have a weight of 1.
        self.assertEqual(found, sorted(set(expected) - {(9, 9, 0, 9, 8), (9, 9, 1, 9, 0)}))

    def test_from_all_choices_of_bounds(self):
        numbers = source(41)
        for _ in range(60):
            condition = small(random_condition(numbers))
            self.assertEqual(clauses_of(condition), clauses_slowly(condition, 4), condition)

    def test_every_form_of_a_condition(self):
        for limits in range(1, 6):
            for at, value in enumerate(shapes(limits)):
                bounds = itertools.cycle([("items", 2), ("weight", 3), ("age", 1), ("kinds", 3), ("marks", 3)][at % 5:])
                condition = filled(value, bounds)
                self.assertEqual(clauses_of(condition), clauses_slowly(condition, 3), condition)

    def test_full_ascending_and_none_above_another_one(self):
        numbers = source(42)
        for _ in range(500):
            found = clauses_of(random_condition(numbers))
            self.assertEqual(found, sorted(set(found)))
            for clause in found:
                self.assertTrue(is_full(clause))
                self.assertEqual([is_at_or_below(other, clause) for other in found].count(True), 1)

    def test_a_stretch_reaches_the_condition_if_it_reaches_a_clause(self):
        numbers = source(43)
        for _ in range(300):
            condition, traffic = random_condition(numbers), random_traffic(numbers)
            found = clauses_of(condition)
            for end in range(1, len(traffic) + 1):
                for start in range(end):
                    measures = measures_of(traffic, start, end)
                    expected = any(is_at_or_below(clause, measures) for clause in found)
                    self.assertIs(reaches(traffic, condition, start, end), expected)


def small(condition):
    """Return the condition with bounds up to 4."""
    word, rest = condition
    return (word, min(rest, 4)) if word in MEASURES else (word, [small(part) for part in rest])


def filled(shape, limits):
    """Return a condition of the same form with these limits."""
    return next(limits) if shape[0] in MEASURES else (shape[0], [filled(part, limits) for part in shape[1]])


class NormalFormTest(unittest.TestCase):
    def test_forms(self):
        self.assertEqual(normal_form((None, None)), ([], []))
        self.assertEqual(normal_form((("items", 1), ("weight", 1))), ([(1, 0, 0, 1, 0)], []))
        rule = (("any", [("weight", 9), ("items", 5)]), ("weight", 4))
        self.assertEqual(normal_form(rule), ([(1, 9, 0, 1, 0), (5, 0, 0, 1, 0)], [(2, 4, 0, 1, 0)]))
        self.assertEqual(normal_form((None, ("marks", 1))), ([], [(2, 0, 0, 1, 1)]))

    def test_the_cap_has_two_items_at_least(self):
        self.assertEqual(normal_form((None, ("items", 1))), ([], [(2, 0, 0, 1, 0)]))
        cap = ("any", [("items", 1), ("age", 3), ("weight", 5)])
        self.assertEqual(normal_form((None, cap)), ([], [(2, 0, 0, 1, 0)]))

    def test_goal_clauses_of_a_single_item_stay(self):
        for measure in ("weight", "marks", "items", "kinds"):
            rule = ((measure, 1), (measure, 1))
            self.assertEqual(normal_form(rule)[0], clauses_of((measure, 1)))
        self.assertEqual(normal_form((("age", 1), ("age", 1))), ([], [(2, 0, 1, 1, 0)]))

    def test_idle_clauses(self):
        goal = ("any", [("all", [("items", 3), ("weight", 6)]), ("marks", 1)])
        idle = idle_clauses((goal, ("any", [("weight", 5), ("marks", 2)])))
        self.assertEqual(idle, ([(3, 6, 0, 1, 0)], [(2, 0, 0, 1, 2)]))
        self.assertEqual(idle_clauses((None, None)), ([], []))
        self.assertEqual(idle_clauses((("items", 2), ("items", 3))), ([], [(3, 0, 0, 1, 0)]))
        self.assertEqual(idle_clauses((("items", 3), ("items", 3))), ([(3, 0, 0, 1, 0)], []))

    def test_a_goal_clause_that_goes_lets_the_cap_stay(self):
        rule = (("items", 2), ("any", [("items", 2), ("items", 3)]))
        self.assertEqual(normal_form(rule), ([], [(2, 0, 0, 1, 0)]))
        self.assertEqual(normal_form((("weight", 3), ("all", [("weight", 3), ("items", 2)])))[1], [(2, 3, 0, 1, 0)])

    def test_what_a_stretch_has_without_its_last_item(self):
        for goal, cap, stays in [
            (("kinds", 2), [("kinds", 2), ("items", 3)], True), (("kinds", 2), [("kinds", 3), ("items", 3)], False),
            (("marks", 1), [("marks", 1), ("items", 2)], True), (("marks", 1), [("marks", 2), ("items", 2)], False),
            (("weight", 1), [("weight", 9), ("items", 9)], True), (("age", 1), [("age", 9), ("items", 9)], True),
            (("items", 2), [("items", 2), ("kinds", 2), ("weight", 1)], True), (("items", 2), [("items", 3)] * 2, False),
        ]:
            with self.subTest(goal=goal, cap=cap):
                rule = (goal, ("all", cap))
                kept = clauses_of(("all", cap)) if stays else []
                self.assertEqual(normal_form(rule), (clauses_of(goal), kept))
                self.assertIs(are_alike(rule, (goal, None)), not stays)

    def test_the_three_steps(self):
        numbers = source(44)
        for _ in range(60):
            goal, cap = [part and small(part) for part in random_rule(numbers, 6)]
            form, idle = form_slowly((goal, cap), 4)
            self.assertEqual(normal_form((goal, cap)), form, (goal, cap))
            self.assertEqual(idle_clauses((goal, cap)), idle, (goal, cap))


class AlikeTest(unittest.TestCase):
    def test_rules(self):
        goal = ("items", 3)
        found = [are_alike((goal, None), (goal, other)) for other in [("weight", 5), ("items", 4), ("items", 3)]]
        self.assertEqual(found, [False, True, False])
        self.assertIs(are_alike((None, ("items", 3)), (("items", 3), ("items", 3))), True)
        self.assertIs(are_alike((None, ("items", 3)), (("items", 2), None)), False)
        self.assertIs(are_alike((None, ("items", 1)), (None, ("items", 2))), True)
        self.assertIs(are_alike((("items", 1), ("weight", 1)), (("items", 1), None)), True)

    def test_a_traffic_tells_rules_apart(self):
        for rule, other in random_pairs(45, 1500):
            self.check_parting(rule, other)

    def test_greatest_bounds(self):
        rules = edge_rules()
        for rule, other in zip(rules, source(46).sample(rules, len(rules))):
            self.check_parting(rule, other)
            self.check_later(rule, other)

    def check_parting(self, rule, other):
        traffic = parting_traffic(rule, other)
        self.assertIs(are_alike(rule, other), normal_form(rule) == normal_form(other))
        self.assertIs(are_alike(rule, other), traffic is None)
        self.assertIs(are_alike(other, rule), traffic is None)
        if traffic is not None:
            self.assertTrue(is_traffic(traffic))
            self.assertNotEqual(closings(traffic, rule), closings(traffic, other), (rule, other))

    def check_later(self, rule, other):
        traffic = later_traffic(rule, other)
        self.assertIs(is_never_later(rule, other), traffic is None)
        if traffic is not None:
            self.assertTrue(is_traffic(traffic))
            first, second = next_closing(traffic, rule, 0), next_closing(traffic, other, 0)
            self.assertIsNotNone(second)
            self.assertTrue(first is None or first > second, (rule, other))

    def test_rules_that_are_alike_close_alike(self):
        numbers = source(47)
        pairs = [pair for pair in random_pairs(48, 1500) if are_alike(*pair)]
        self.assertGreater(len(pairs), 100)
        for rule, other in pairs:
            for traffic in [random_traffic(numbers), random_traffic(numbers), long_traffic(numbers)]:
                for start in range(0, len(traffic) + 1, 3):
                    found = closings(traffic, rule, start=start)
                    self.assertEqual(found, closings(traffic, other, start=start), (rule, other))

    def test_never_later(self):
        goal, cap = (("items", 3), None), (None, ("items", 4))
        self.assertEqual([is_never_later(goal, cap), is_never_later(cap, goal)], [True, False])
        self.assertIs(is_never_later((None, None), goal), False)
        self.assertIs(is_never_later(goal, (None, None)), True)
        self.assertIs(is_never_later((None, ("items", 3)), (("items", 3), None)), True)

    def test_a_traffic_shows_the_later_closing(self):
        for rule, other in random_pairs(49, 1500):
            self.check_later(rule, other)
            self.check_later(other, rule)
            both = is_never_later(rule, other) and is_never_later(other, rule)
            self.assertIs(both, are_alike(rule, other))

    def test_rules_that_are_never_later_are_not(self):
        numbers = source(50)
        pairs = [pair for pair in random_pairs(51, 1500) if is_never_later(*pair)]
        self.assertGreater(len(pairs), 200)
        for rule, other in pairs:
            for traffic in [random_traffic(numbers), random_traffic(numbers), long_traffic(numbers)]:
                for start in range(0, len(traffic) + 1, 3):
                    first, second = next_closing(traffic, rule, start), next_closing(traffic, other, start)
                    self.assertTrue(second is None or first is not None and first <= second, (rule, other))
