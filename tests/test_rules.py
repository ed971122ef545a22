"""Points 7, 8, 14 and 17 to 20: limits, conditions, rules, and the stretches that reach them."""

import copy
import itertools
import unittest

from batchlimits.errors import InvalidCondition, InvalidGap, InvalidStretch, InvalidTraffic, TooLarge
from batchlimits.rules import (
    MEASURES, all_of, any_of, first_reach, is_condition, is_rule, limits_of, reaches,
)
from tests.slow import measured_slowly, reached_slowly
from tests.test_items import wrong_traffics
from tests.values import (
    HUGE, Equal, Plain, long_traffic, nested_conditions, nested_lists, odd_values, ones, random_condition,
    random_traffic, source, weights,
)

LIMIT = ("items", 3)
DEEP = ("any", [("all", [("items", 3), ("weight", 5)]), ("marks", 2)])
HEAVY = ("weight", 4)
TRAFFIC = weights(2, 1, 3, 1, 2, 2, 1, 3)


def splits(many, parts):
    """Return the lists of so many positive sizes that have this sum."""
    cuts = itertools.combinations(range(1, many), parts - 1)
    return [[end - start for start, end in zip((0, *cut), (*cut, many))] for cut in cuts]


def shapes(limits):
    """Return values of all forms with so many limits: parts in parts, two to seven of them, at every depth."""
    if limits == 1:
        return [LIMIT]
    found = []
    for parts in range(2, limits + 1):
        for sizes in splits(limits, parts):
            for chosen in itertools.product(*[shapes(size) for size in sizes]):
                found.append(("all" if len(found) % 2 else "any", list(chosen)))
    return found


def wrong_conditions():
    """Return values of all kinds that are no condition."""
    seven = [LIMIT] * 7
    return odd_values() + [
        list(LIMIT), [LIMIT], (LIMIT,), LIMIT + (1,), ("items",), ("items", 3, 3), (LIMIT, LIMIT), (3, "items"),
        ("Items", 3), ("items ", 3), ("", 3), ("any", 3), ("all", 3), ("none", 3), (b"items", 3), (None, 3),
        (["items"], 3), ({"items"}, 3), (Equal(), 3), (Equal(), [LIMIT, LIMIT]), (Equal(), Equal()),
        ("any", LIMIT), ("any", (LIMIT, LIMIT)), ["any", [LIMIT, LIMIT]], ("any", [LIMIT, LIMIT], []),
        ("or", [LIMIT, LIMIT]), ("Any", [LIMIT, LIMIT]), ("items", [LIMIT, LIMIT]), (["any"], [LIMIT, LIMIT]),
        ("any", {0: LIMIT, 1: LIMIT}), ("any", {LIMIT, HEAVY}),
        ("any", []), ("any", [LIMIT]), ("all", []), ("all", [LIMIT]), ("any", seven), ("all", seven),
        ("any", [LIMIT, None]), ("any", [None, LIMIT]), ("any", [LIMIT, ("items", 41)]), ("any", [LIMIT, list(LIMIT)]),
        ("all", [LIMIT, ("any", [LIMIT])]), ("all", [("any", [LIMIT, LIMIT]), ("any", [])]),
        ("any", [LIMIT, nested_lists(97)]), ("all", [nested_conditions(49, 2), LIMIT]),
    ]


class IsConditionTest(unittest.TestCase):
    def test_measures(self):
        self.assertEqual(MEASURES, ("items", "weight", "age", "kinds", "marks"))

    def test_bounds(self):
        greatest = {"items": 40, "weight": HUGE, "age": HUGE, "kinds": 40, "marks": 40}
        for measure in MEASURES:
            most = greatest[measure]
            for bound in [1, 2, 39, 40, most - 1, most]:
                with self.subTest(measure=measure, bound=bound):
                    self.assertIs(is_condition((measure, bound)), True)
            for bound in [0, -1, -40, most + 1, most * 10, True, False, None, 1.0, "1", [], [1], (), {}, Plain()]:
                with self.subTest(measure=measure, bound=bound):
                    self.assertIs(is_condition((measure, bound)), False)

    def test_bounds_behind_forty(self):
        values = [(measure, 41) for measure in MEASURES]
        self.assertEqual([is_condition(value) for value in values], [False, True, True, False, False])

    def test_numbers_of_parts(self):
        for word in ["any", "all"]:
            for many in range(9):
                with self.subTest(word=word, many=many):
                    self.assertIs(is_condition((word, [LIMIT] * many)), 2 <= many <= 6)

    def test_up_to_six_limits_at_every_depth(self):
        self.assertEqual([len(shapes(limits)) for limits in range(1, 8)], [1, 1, 3, 11, 45, 197, 903])
        for limits in range(1, 7):
            for value in shapes(limits):
                self.assertIs(is_condition(value), True, value)

    def test_seven_and_more_limits_at_every_depth(self):
        for value in shapes(7):
            self.assertIs(is_condition(value), False, value)
        self.assertIs(is_condition(("any", [("all", [LIMIT] * 6)] * 6)), False)
        self.assertIs(is_condition(("any", [("all", [LIMIT] * 6), LIMIT])), False)

    def test_wrong_conditions(self):
        for at, value in enumerate(wrong_conditions()):
            with self.subTest(at=at):
                self.assertIs(is_condition(value), False)

    def test_a_wrong_part_at_every_depth(self):
        for wrong in [("items", 0), ("items", True), list(LIMIT), None, ("any", [LIMIT])]:
            first = last = wrong
            for _ in range(5):
                first, last = ("any", [first, LIMIT]), ("all", [LIMIT, last])
                self.assertIs(is_condition(first), False, first)
                self.assertIs(is_condition(last), False, last)


def wrong_rules():
    """Return values of all kinds that are no rule."""
    wrong = [value for value in wrong_conditions() if value is not None]
    pairs = [[(value, None), (None, value), (value, LIMIT), (LIMIT, value), (value, value)] for value in wrong]
    return odd_values() + sum(pairs, []) + [
        LIMIT, DEEP, [None, None], [LIMIT, None], (LIMIT,), (None,), (), (None, None, None),
        (LIMIT, None, None), ((LIMIT, None),), {"goal": None, "cap": None}, ((LIMIT, LIMIT), None),
    ]


class IsRuleTest(unittest.TestCase):
    def test_rules(self):
        for goal in [None, LIMIT, DEEP, ("all", [LIMIT] * 6)]:
            for cap in [None, LIMIT, DEEP, ("any", [LIMIT] * 6)]:
                with self.subTest(goal=goal, cap=cap):
                    self.assertIs(is_rule((goal, cap)), True)

    def test_wrong_rules(self):
        for at, value in enumerate(wrong_rules()):
            with self.subTest(at=at):
                self.assertIs(is_rule(value), False)


class JoiningTest(unittest.TestCase):
    JOINING = (("any", any_of), ("all", all_of))

    def test_parts_in_their_order(self):
        for word, join in self.JOINING:
            for many in range(2, 7):
                limits = [("items", bound) for bound in range(many, 0, -1)]
                self.assertEqual(join(*limits), (word, limits))

    def test_parts_stay_parts(self):
        inner = ("any", [LIMIT, HEAVY])
        for word, join in self.JOINING:
            self.assertEqual(join(inner, inner), (word, [inner, inner]))
            self.assertEqual(join(DEEP, LIMIT), (word, [DEEP, LIMIT]))
            self.assertEqual(join(LIMIT, LIMIT), (word, [LIMIT, LIMIT]))

    def test_the_results_are_conditions(self):
        numbers = source(3)
        for _ in range(300):
            first, second = random_condition(numbers, 3), random_condition(numbers, 3)
            for word, join in self.JOINING:
                self.assertEqual(join(first, second), (word, [first, second]))
                self.assertTrue(is_condition(join(first, second)))

    def test_a_single_condition(self):
        for _, join in self.JOINING:
            for condition in [LIMIT, DEEP, ("all", [LIMIT] * 6)]:
                self.assertEqual(join(condition), condition)

    def test_new_values_and_unchanged_arguments(self):
        for _, join in self.JOINING:
            for others in [(), (LIMIT,)]:
                given = copy.deepcopy(DEEP)
                first = join(given, *others)
                kept = copy.deepcopy(first)
                part = first if not others else first[1][0]
                self.assertEqual(part, given)
                part[1][0][1].append(LIMIT)
                part[1].clear()
                self.assertEqual(given, DEEP)
                self.assertEqual(join(given, *others), kept)

    def test_the_same_condition_twice_gives_two_new_values(self):
        for _, join in self.JOINING:
            found = join(DEEP, DEEP)
            found[1][0][1].clear()
            self.assertEqual(found[1][1], DEEP)

    def test_without_arguments(self):
        for _, join in self.JOINING:
            with self.assertRaises(InvalidCondition):
                join()

    def test_wrong_conditions(self):
        for _, join in self.JOINING:
            for value in wrong_conditions():
                for given in [(value,), (value, LIMIT), (LIMIT, value), (LIMIT, LIMIT, value)]:
                    with self.assertRaises(InvalidCondition):
                        join(*given)

    def test_more_than_six(self):
        three = ("any", [LIMIT] * 3)
        six = ("all", [LIMIT] * 6)
        for _, join in self.JOINING:
            for given in [
                (LIMIT,) * 7, (LIMIT,) * 8, (three, three, LIMIT), (LIMIT, six), (six, six), (DEEP, DEEP, LIMIT),
            ]:
                with self.subTest(given=given):
                    with self.assertRaises(TooLarge) as caught:
                        join(*given)
                    self.assertEqual(caught.exception.limit, 6)
            self.assertTrue(is_condition(join(three, three)))
            self.assertTrue(is_condition(join(DEEP, DEEP)))
            self.assertTrue(is_condition(join(*[LIMIT] * 6)))

    def test_wrong_conditions_come_before_their_number(self):
        for _, join in self.JOINING:
            for wrong in [None, ("items", 0), ("any", [LIMIT] * 7)]:
                with self.assertRaises(InvalidCondition):
                    join(*[LIMIT] * 7, wrong)
                with self.assertRaises(InvalidCondition):
                    join(("any", [LIMIT] * 6), LIMIT, wrong)


class LimitsTest(unittest.TestCase):
    def test_from_left_to_right(self):
        self.assertEqual(limits_of(LIMIT), [LIMIT])
        self.assertEqual(limits_of(DEEP), [("items", 3), ("weight", 5), ("marks", 2)])
        found = limits_of(("all", [HEAVY, DEEP, LIMIT]))
        self.assertEqual(found, [HEAVY, ("items", 3), ("weight", 5), ("marks", 2), LIMIT])

    def test_limits_that_occur_twice(self):
        self.assertEqual(limits_of(("all", [LIMIT, ("any", [HEAVY, LIMIT]), LIMIT])), [LIMIT, HEAVY, LIMIT, LIMIT])

    def test_every_form(self):
        for limits in range(1, 7):
            for value in shapes(limits):
                self.assertEqual(limits_of(value), [LIMIT] * limits)

    def test_wrong_conditions(self):
        for at, value in enumerate(wrong_conditions()):
            with self.subTest(at=at), self.assertRaises(InvalidCondition):
                limits_of(value)

    def test_a_new_list_and_an_unchanged_argument(self):
        for condition in [LIMIT, DEEP]:
            given = copy.deepcopy(condition)
            limits = limits_of(given)
            limits.append(None)
            self.assertEqual(limits_of(given), limits[:-1])
            self.assertEqual(given, condition)


class ReachesTest(unittest.TestCase):
    def test_each_measure_at_its_bound(self):
        traffic = [(9, 2, "a", True), (5, 1, "b", False), (1, 3, "a", True)]
        for measure, amount in zip(MEASURES, (3, 6, 6, 2, 2)):
            for bound in range(1, 8):
                with self.subTest(measure=measure, bound=bound):
                    self.assertIs(reaches(traffic, (measure, bound), 0, 3), amount >= bound)

    def test_any_and_all(self):
        yes, no = ("items", 2), ("items", 3)
        for first, second in itertools.product([yes, no], repeat=2):
            given = [first == yes, second == yes]
            self.assertIs(reaches(TRAFFIC, ("any", [first, second]), 2, 4), any(given))
            self.assertIs(reaches(TRAFFIC, ("all", [first, second]), 2, 4), all(given))

    def test_greatest_bounds(self):
        traffic = [(HUGE, HUGE, "a", True)] * 40
        for measure in ["items", "marks"]:
            self.assertIs(reaches(traffic, (measure, 40), 0, 40), True)
            self.assertIs(reaches(traffic, (measure, 40), 0, 39), False)
        self.assertIs(reaches(traffic, ("kinds", 2), 0, 40), False)
        self.assertIs(reaches(traffic, ("weight", HUGE), 39, 40), True)
        self.assertIs(reaches(traffic, ("age", HUGE), 39, 40), False)
        self.assertIs(reaches(traffic, ("age", HUGE), 38, 40), True)

    def test_random_stretches(self):
        numbers = source(4)
        for _ in range(400):
            traffic, condition = random_traffic(numbers), random_condition(numbers)
            for end in range(1, len(traffic) + 1):
                for start in range(end):
                    expected = reached_slowly(traffic, condition, start, end)
                    self.assertIs(reaches(traffic, condition, start, end), expected)

    def test_longer_stretches_reach_what_shorter_ones_do(self):
        numbers = source(5)
        for _ in range(300):
            traffic, condition = random_traffic(numbers), random_condition(numbers)
            for end in range(1, len(traffic) + 1):
                for start in range(end):
                    if reaches(traffic, condition, start, end):
                        self.assertTrue(start == 0 or reaches(traffic, condition, start - 1, end))
                        self.assertTrue(end == len(traffic) or reaches(traffic, condition, start, end + 1))

    def test_wrong_traffic_and_conditions(self):
        for at, value in enumerate(wrong_traffics()):
            with self.subTest(at=at), self.assertRaises(InvalidTraffic):
                reaches(value, LIMIT, 0, 1)
        for at, value in enumerate(wrong_conditions()):
            with self.subTest(at=at), self.assertRaises(InvalidCondition):
                reaches(TRAFFIC, value, 0, 1)

    def test_wrong_stretch(self):
        for start, end in [
            (0, 0), (8, 8), (2, 1), (-1, 1), (0, 9), (8, 9), (0, -1), (0, HUGE),
            (True, 2), (0, True), (False, 1), (0, 1.0),
        ]:
            with self.subTest(start=start, end=end), self.assertRaises(InvalidStretch):
                reaches(TRAFFIC, LIMIT, start, end)
        with self.assertRaises(InvalidStretch):
            reaches([], LIMIT, 0, 0)
        for at, value in enumerate(odd_values()):
            if value.__class__ is not int:
                with self.subTest(at=at), self.assertRaises(InvalidStretch):
                    reaches(TRAFFIC, LIMIT, value, 3)
                with self.assertRaises(InvalidStretch):
                    reaches(TRAFFIC, LIMIT, 0, value)

    def test_order_of_the_errors(self):
        with self.assertRaises(InvalidTraffic):
            reaches(tuple(TRAFFIC), None, 0, 1)
        with self.assertRaises(InvalidTraffic):
            reaches(ones(41), LIMIT, 1, 0)
        with self.assertRaises(InvalidCondition):
            reaches(TRAFFIC, ("items", 41), 1, 0)

    def test_arguments_are_unchanged(self):
        traffic, condition = list(TRAFFIC), copy.deepcopy(DEEP)
        reaches(traffic, condition, 0, 8)
        first_reach(traffic, condition, 0)
        self.assertEqual((traffic, condition), (TRAFFIC, DEEP))


class FirstReachTest(unittest.TestCase):
    def test_from_every_gap(self):
        found = [first_reach(TRAFFIC, HEAVY, start) for start in range(9)]
        self.assertEqual(found, [3, 3, 4, 6, 6, 8, 8, None, None])

    def test_edges(self):
        self.assertIsNone(first_reach([], LIMIT, 0))
        self.assertIsNone(first_reach(TRAFFIC, ("items", 1), 8))
        self.assertEqual(first_reach(TRAFFIC, ("items", 1), 7), 8)
        self.assertEqual(first_reach(ones(40), ("items", 40), 0), 40)
        self.assertIsNone(first_reach(ones(40), ("items", 40), 1))
        self.assertIsNone(first_reach(ones(39), ("items", 40), 0))

    def test_random_traffic(self):
        numbers = source(6)
        for _ in range(400):
            traffic, condition = random_traffic(numbers), random_condition(numbers)
            for start in range(len(traffic) + 1):
                ends = range(start + 1, len(traffic) + 1)
                reached = [end for end in ends if reached_slowly(traffic, condition, start, end)]
                self.assertEqual(first_reach(traffic, condition, start), min(reached, default=None))

    def test_wrong_traffic_and_conditions(self):
        for at, value in enumerate(wrong_traffics()):
            with self.subTest(at=at), self.assertRaises(InvalidTraffic):
                first_reach(value, LIMIT, 0)
        for at, value in enumerate(wrong_conditions()):
            with self.subTest(at=at), self.assertRaises(InvalidCondition):
                first_reach(TRAFFIC, value, 0)

    def test_every_measure_on_long_traffic(self):
        numbers = source(7)
        for _ in range(3):
            traffic = long_traffic(numbers)
            for start in range(41):
                measured = [measured_slowly(traffic, start, end) for end in range(start + 1, 41)]
                for at, measure in enumerate(MEASURES):
                    for bound in range(1, 41):
                        reached = [measures[0] + start for measures in measured if measures[at] >= bound]
                        found = first_reach(traffic, (measure, bound), start)
                        self.assertEqual(found, min(reached, default=None))

    def test_wrong_gap(self):
        for start in [-1, 9, HUGE, -HUGE, True, False, 0.0, "0"]:
            with self.subTest(start=start), self.assertRaises(InvalidGap):
                first_reach(TRAFFIC, HEAVY, start)
        with self.assertRaises(InvalidGap):
            first_reach([], HEAVY, 1)
        for at, value in enumerate(odd_values()):
            if value.__class__ is not int:
                with self.subTest(at=at), self.assertRaises(InvalidGap):
                    first_reach(TRAFFIC, HEAVY, value)

    def test_order_of_the_errors(self):
        with self.assertRaises(InvalidTraffic):
            first_reach(tuple(TRAFFIC), None, 0)
        with self.assertRaises(InvalidTraffic):
            first_reach(ones(41), HEAVY, -1)
        with self.assertRaises(InvalidCondition):
            first_reach(TRAFFIC, list(HEAVY), -1)
