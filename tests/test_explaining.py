"""Points 4 and 49 to 53: bounds that explain told closings."""

import itertools
import unittest

from batchlimits.errors import InvalidGaps, InvalidMeasure, InvalidStretch, Unexplained
from batchlimits.explaining import cap_range, explains, goal_range, least_goals, open_stretch
from tests.slow import choices, closings_slowly, measured_slowly
from tests.test_closings import RULE, TRAFFIC
from tests.test_forced import wrong_lists
from tests.values import HUGE, Equal, long_traffic, odd_values, ones, random_rule, random_traffic, source, weights

MEASURES = ("items", "weight", "age", "kinds", "marks")
# Greater than each measure of the short traffic that is tried here.
MOST = 14


def told_cases(seed, many, most=4):
    """Return tuples of a short traffic and each list of gaps that can be told of it."""
    numbers = source(seed)
    for _ in range(many):
        traffic = random_traffic(numbers, most)
        for closings in choices(range(1, len(traffic) + 1)):
            yield traffic, closings


def explained_cases(seed, many):
    """Return tuples of a traffic of 40 items and the closings of a rule with one limit."""
    numbers = source(seed)
    for _ in range(many):
        traffic, limit = long_traffic(numbers), (numbers.choice(MEASURES), numbers.randrange(1, 9))
        rule = numbers.choice([(limit, None), (None, limit)])
        yield traffic, rule, closings_slowly(traffic, rule)


def batches_of(closings):
    return list(zip([0] + closings, closings))


def amount(traffic, stretch, measure):
    return measured_slowly(traffic, *stretch)[MEASURES.index(measure)]


def open_slowly(traffic, closings):
    """Return the stretches that must stay open: batches of two or more items without the last one, and the rest."""
    found = [(start, end - 1) for start, end in batches_of(closings) if end - start > 1]
    last = max(closings, default=0)
    return found + ([(last, len(traffic))] if last < len(traffic) else [])


def range_slowly(bounds):
    """Return the least and the greatest of the bounds; the greatest one is None if the last one tried is among them."""
    if not bounds:
        return None
    greatest = None if MOST in bounds else max(bounds)
    assert bounds == list(range(min(bounds), max(bounds) + 1))
    return (min(bounds), greatest)


def wrong_measures():
    """Return values of all kinds that are no measure."""
    words = ["Items", "items ", " items", "item", "", "any", "all", "none", "pause", "kind", "marked", b"items"]
    return [value for value in odd_values() if value != "items"] + words + [["items"], ("items",), Equal()]


def wrong_measure_lists():
    """Return values of all kinds that are no list of one to five different measures."""
    lists = [
        [], ["items", "items"], ["items", "weight", "items"], list(MEASURES) + ["items"], list(MEASURES) * 2,
        tuple(MEASURES), ("items",), {"items": 1}, {"items"}, "items", [["items"]], [("items",)], ["Items"],
        ["items", None], [None, "items"], ["items", []], [[], "items"], [{}, {}], ["items", {}], [Equal()],
        ["items", Equal()], [b"items"], ["items", 0], ["items,weight"],
    ]
    return odd_values() + lists + [[value] for value in wrong_measures()]


def wrong_batches():
    """Return values of all kinds that are none of the batches of the told closings 1, 3 and 8."""
    values = [
        [0, 1], [1, 3], (0, 3), (1, 8), (3, 4), (0, 0), (1, 1), (8, 8), (3, 1), (8, 3), (-1, 1), (1,), (3,), (),
        (0, True), (False, 1), (True, 3), (False, True), (0.0, 1), (1, 3.0), ("1", "3"), "13", (1, 3, 8), (0, 1, 1),
        ((1, 3),), [(1, 3)], {1: 3}, {1, 3}, (1, None), (None, 3), ([], {}), (1, HUGE), (HUGE, HUGE),
        (Equal(), Equal()), (1, Equal()), (Equal(), 3), Equal(), (3, 9),
    ]
    return [value for value in odd_values() if value != (0, 1)] + values


class ExplainsTest(unittest.TestCase):
    def test_rules(self):
        rules = [(("weight", bound), None) for bound in (3, 4, 5)]
        self.assertEqual([explains(TRAFFIC, rule, [3, 6, 8]) for rule in rules], [False, True, False])
        self.assertIs(explains([], RULE, []), True)
        self.assertIs(explains(ones(1), (("items", 1), None), [1]), True)
        self.assertIs(explains(ones(1), (("items", 1), None), []), False)
        self.assertIs(explains(ones(40), (None, None), []), True)
        self.assertIs(explains(ones(40), (None, None), [40]), False)
        self.assertIs(explains(ones(40), (None, ("items", 2)), list(range(1, 40))), True)

    def test_all_lists_of_gaps_of_short_traffic(self):
        numbers = source(101)
        for traffic, closings in told_cases(102, 40):
            rule = random_rule(numbers)
            self.assertIs(explains(traffic, rule, closings), closings_slowly(traffic, rule) == closings)

    def test_closings_are_explained_by_their_rule(self):
        for traffic, rule, closings in explained_cases(103, 40):
            self.assertIs(explains(traffic, rule, closings), True)
            for gap in closings:
                self.assertIs(explains(traffic, rule, [other for other in closings if other != gap]), False)


class GoalRangeTest(unittest.TestCase):
    def test_ranges(self):
        self.assertEqual(goal_range(TRAFFIC, [3, 6, 8], "weight"), (4, 4))
        self.assertIsNone(goal_range(TRAFFIC, [3, 6, 8], "items"))
        self.assertEqual(goal_range(TRAFFIC, [], "kinds"), (2, None))

    def test_edges(self):
        self.assertEqual([goal_range([], [], measure) for measure in MEASURES], [(1, None)] * 5)
        # A batch with 0 marks reaches no bound.
        self.assertIsNone(goal_range(ones(1), [1], "marks"))
        self.assertIsNone(goal_range(ones(1), [1], "age"))
        self.assertEqual(goal_range(ones(1), [1], "weight"), (1, 1))
        self.assertEqual(goal_range(ones(1), [], "weight"), (2, None))
        self.assertEqual(goal_range(ones(1), [], "marks"), (1, None))
        self.assertEqual(goal_range(ones(40), [40], "items"), (40, 40))
        # Bounds that are greater than those of a limit.
        self.assertEqual(goal_range(ones(40), [], "items"), (41, None))
        self.assertEqual(goal_range([(0, HUGE, "a", False)] * 40, [40], "weight"), (39 * HUGE + 1, 40 * HUGE))
        self.assertEqual(goal_range([(HUGE, 0, "a", False)] * 40, [], "age"), (39 * HUGE + 1, None))
        self.assertEqual(goal_range(weights(5, 5, 9, 1), [2, 3], "weight"), (6, 9))

    def test_all_bounds_of_short_traffic(self):
        for traffic, closings in told_cases(104, 60):
            for measure in MEASURES:
                tried = [closings_slowly(traffic, ((measure, bound), None)) for bound in range(1, MOST + 1)]
                bounds = [bound for bound, found in enumerate(tried, start=1) if found == closings]
                found = goal_range(traffic, closings, measure)
                self.assertEqual(found, range_slowly(bounds), (traffic, closings, measure))
                self.assertEqual(found is not None and found[1] is None, not closings)

    def test_long_traffic(self):
        for traffic, rule, closings in explained_cases(105, 60):
            for measure in MEASURES:
                found = goal_range(traffic, closings, measure)
                tried = [closings_slowly(traffic, ((measure, bound), None)) == closings for bound in range(1, 12)]
                least, greatest = found or (99, 0)
                greatest = 99 if greatest is None else greatest
                self.assertEqual(tried, [least <= bound <= greatest for bound in range(1, 12)])


class CapRangeTest(unittest.TestCase):
    def test_ranges(self):
        self.assertEqual(cap_range(TRAFFIC, [2, 4, 6], "weight"), (5, 5))
        self.assertEqual(cap_range(TRAFFIC, [2, 4, 6], "items"), (3, 3))
        self.assertIsNone(cap_range(TRAFFIC, [8], "weight"))

    def test_edges(self):
        self.assertEqual([cap_range([], [], measure) for measure in MEASURES], [(1, None)] * 5)
        self.assertEqual([cap_range(ones(1), [], measure) for measure in MEASURES], [(1, None)] * 5)
        self.assertEqual([cap_range(ones(1), [1], measure) for measure in MEASURES], [None] * 5)
        self.assertEqual(cap_range(ones(2), [1], "items"), (1, 2))
        self.assertIsNone(cap_range(ones(2), [1], "marks"))
        self.assertEqual(cap_range(ones(2), [], "items"), (3, None))
        self.assertEqual(cap_range(ones(40), [], "items"), (41, None))
        self.assertEqual(cap_range(ones(40), list(range(1, 40)), "items"), (1, 2))
        self.assertIsNone(cap_range(ones(40), list(range(1, 41)), "items"))
        self.assertEqual(cap_range([(0, HUGE, "a", False)] * 40, [39], "weight"), (39 * HUGE + 1, 40 * HUGE))
        # A single item may reach the cap, in a batch and in the rest.
        self.assertEqual(cap_range(weights(9, 1, 9), [1, 2], "weight"), (1, 10))

    def test_all_bounds_of_short_traffic(self):
        for traffic, closings in told_cases(106, 60):
            for measure in MEASURES:
                tried = [closings_slowly(traffic, (None, (measure, bound))) for bound in range(1, MOST + 1)]
                bounds = [bound for bound, found in enumerate(tried, start=1) if found == closings]
                found = cap_range(traffic, closings, measure)
                self.assertEqual(found, range_slowly(bounds), (traffic, closings, measure))
                self.assertEqual(found is not None and found[1] is None, not closings)

    def test_long_traffic(self):
        for traffic, rule, closings in explained_cases(107, 60):
            for measure in MEASURES:
                found = cap_range(traffic, closings, measure)
                tried = [closings_slowly(traffic, (None, (measure, bound))) == closings for bound in range(1, 12)]
                least, greatest = found or (99, 0)
                greatest = 99 if greatest is None else greatest
                self.assertEqual(tried, [least <= bound <= greatest for bound in range(1, 12)])


def goals_slowly(traffic, closings, measures, most):
    """Return all bounds up to most, one for each measure, any of which as the goal explains the closings."""
    found = []
    for bounds in itertools.product(range(1, most + 1), repeat=len(measures)):
        limits = list(zip(measures, bounds))
        goal = limits[0] if len(limits) == 1 else ("any", limits)
        if closings_slowly(traffic, (goal, None)) == closings:
            found.append(bounds)
    return found


class LeastGoalsTest(unittest.TestCase):
    def test_goals(self):
        found = least_goals(TRAFFIC, [3, 6, 8], ["weight", "items"])
        self.assertEqual(found, {"weight": 4, "items": 3})
        self.assertEqual(list(found), ["weight", "items"])
        self.assertEqual(list(least_goals(TRAFFIC, [3, 6, 8], ["items", "weight"])), ["items", "weight"])
        with self.assertRaises(Unexplained) as caught:
            least_goals(TRAFFIC, [3, 6, 8], ["items", "kinds"])
        self.assertEqual(vars(caught.exception), {"batch": (6, 8)})

    def test_edges(self):
        self.assertEqual(least_goals([], [], ["kinds"]), {"kinds": 1})
        self.assertEqual(least_goals(ones(1), [], ["items", "age"]), {"items": 2, "age": 1})
        self.assertEqual(least_goals(ones(40), [], ["items", "marks"]), {"items": 41, "marks": 1})
        self.assertEqual(least_goals(ones(40), list(range(1, 41)), ["items"]), {"items": 1})
        with self.assertRaises(Unexplained) as caught:
            least_goals(ones(40), [40], ["marks"])
        self.assertEqual(caught.exception.batch, (0, 40))
        with self.assertRaises(Unexplained) as caught:
            least_goals(ones(4), [1, 3], ["items", "age", "marks"])
        self.assertEqual(caught.exception.batch, (0, 1))

    def test_one_to_five_measures_in_any_order(self):
        for many in range(1, 6):
            for measures in itertools.permutations(MEASURES, many):
                found = least_goals(ones(4), [], list(measures))
                self.assertEqual(list(found), list(measures))
                bounds = {"items": 5, "weight": 5, "age": 1, "kinds": 2, "marks": 1}
                self.assertEqual(found, {measure: bounds[measure] for measure in measures})

    def test_all_bounds_of_short_traffic(self):
        numbers = source(108)
        for traffic, closings in told_cases(109, 20):
            for many, most in ((1, MOST), (2, MOST), (3, 7)):
                measures = numbers.sample(MEASURES, many)
                found = goals_slowly(traffic, closings, measures, most)
                try:
                    least = least_goals(traffic, closings, measures)
                except Unexplained as error:
                    self.assertEqual(found, [], (traffic, closings, measures))
                    self.assertEqual(error.batch, unexplained_slowly(traffic, closings, measures))
                    continue
                bounds = tuple(least[measure] for measure in measures)
                if max(bounds) <= most:
                    self.assertIn(bounds, found)
                for other in found:
                    self.assertTrue(all(low <= bound for low, bound in zip(bounds, other)))

    def test_long_traffic(self):
        explained = 0
        for traffic, rule, closings in explained_cases(110, 80):
            measures = [limit[0] for limit in rule if limit] + ["items"] * (None in rule[:1])
            measures = sorted(set(measures))
            try:
                least = least_goals(traffic, closings, measures)
            except Unexplained as error:
                self.assertEqual(error.batch, unexplained_slowly(traffic, closings, measures))
                continue
            limits = [(measure, least[measure]) for measure in measures]
            goal = limits[0] if len(limits) == 1 else ("any", limits)
            self.assertEqual(closings_slowly(traffic, (goal, None)), closings)
            explained += 1
        self.assertGreater(explained, 20)


def unexplained_slowly(traffic, closings, measures):
    """Return the first batch that has for each of the measures 0 or a stretch that must stay open with as much."""
    for batch in batches_of(closings):
        amounts = {measure: amount(traffic, batch, measure) for measure in measures}
        stretches = open_slowly(traffic, closings)
        shown = [any(amount(traffic, s, m) >= amounts[m] for s in stretches) or amounts[m] == 0 for m in measures]
        if all(shown):
            return batch
    return None


class OpenStretchTest(unittest.TestCase):
    def test_stretches(self):
        self.assertIn(open_stretch(TRAFFIC, [3, 6, 8], (6, 8), "items"), [(0, 2), (3, 5)])
        self.assertIsNone(open_stretch(TRAFFIC, [3, 6, 8], (6, 8), "weight"))
        # The rest counts even with a single item, a batch of a single item does not.
        self.assertEqual(open_stretch(ones(2), [1], (0, 1), "items"), (1, 2))
        self.assertIsNone(open_stretch(ones(2), [1, 2], (0, 1), "items"))
        self.assertEqual(open_stretch(ones(40), [1], (0, 1), "marks"), (1, 40))
        self.assertIsNone(open_stretch(ones(40), [40], (0, 40), "items"))

    def test_all_batches_of_short_traffic(self):
        for traffic, closings in told_cases(111, 60, 6):
            stretches = open_slowly(traffic, closings)
            for batch in batches_of(closings):
                for measure in MEASURES:
                    least = amount(traffic, batch, measure)
                    shown = [stretch for stretch in stretches if amount(traffic, stretch, measure) >= least]
                    self.assertIn(open_stretch(traffic, closings, batch, measure), shown or [None])

    def test_a_batch_is_unexplained_if_and_only_if_it_has_stretches(self):
        numbers = source(112)
        for traffic, closings in told_cases(113, 40, 5):
            measures = numbers.sample(MEASURES, numbers.randrange(1, 6))
            try:
                least_goals(traffic, closings, measures)
                found = None
            except Unexplained as error:
                found = error.batch
            for batch in batches_of(closings):
                shown = [
                    amount(traffic, batch, measure) == 0
                    or open_stretch(traffic, closings, batch, measure) is not None for measure in measures
                ]
                if batch == found:
                    self.assertTrue(all(shown))
                    break
                self.assertFalse(all(shown))


class WrongValuesTest(unittest.TestCase):
    def test_told_closings(self):
        for at, value in enumerate(wrong_lists(8)):
            with self.subTest(at=at):
                for call in [
                    lambda: explains(TRAFFIC, RULE, value), lambda: goal_range(TRAFFIC, value, "items"),
                    lambda: cap_range(TRAFFIC, value, "items"), lambda: least_goals(TRAFFIC, value, ["items"]),
                    lambda: open_stretch(TRAFFIC, value, (0, 1), "items"),
                ]:
                    with self.assertRaises(InvalidGaps):
                        call()

    def test_measures(self):
        for at, value in enumerate(wrong_measures()):
            with self.subTest(at=at):
                for call in [
                    lambda: goal_range(TRAFFIC, [8], value), lambda: cap_range(TRAFFIC, [8], value),
                    lambda: open_stretch(TRAFFIC, [8], (0, 8), value),
                ]:
                    with self.assertRaises(InvalidMeasure):
                        call()

    def test_lists_of_measures(self):
        for at, value in enumerate(wrong_measure_lists()):
            with self.subTest(at=at), self.assertRaises(InvalidMeasure):
                least_goals(TRAFFIC, [8], value)

    def test_batches(self):
        for at, value in enumerate(wrong_batches()):
            with self.subTest(at=at), self.assertRaises(InvalidStretch):
                open_stretch(TRAFFIC, [1, 3, 8], value, "items")
        for value in [(0, 0), (0, 8), (0, 1)]:
            with self.assertRaises(InvalidStretch):
                open_stretch(TRAFFIC, [], value, "items")
