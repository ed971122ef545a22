"""Points 8 and 21 to 24: next closings, closings, the rest, reasons, batches."""

import inspect
import unittest

from batchlimits.closings import batch_of, closings, next_closing, reason_of, rest_of, walk_batches
from batchlimits.errors import InvalidGap, InvalidItem, InvalidRule, InvalidTraffic
from tests.slow import closings_slowly, next_slowly, reached_slowly
from tests.values import HUGE, long_traffic, ones, random_rule, random_traffic, source, weights

TRAFFIC = weights(2, 1, 3, 1, 2, 2, 1, 3)
RULE = (("weight", 4), None)


def reason_slowly(traffic, rule, start, end):
    """Return why the batch closes at its end."""
    goal, cap = rule
    by_goal = goal is not None and reached_slowly(traffic, goal, start, end)
    by_cap = cap is not None and end < len(traffic) and reached_slowly(traffic, cap, start, end + 1)
    return {(True, True): "both", (True, False): "goal", (False, True): "cap"}[(by_goal, by_cap)]


def batches_slowly(traffic, rule):
    ends = closings_slowly(traffic, rule)
    return [(start, end, reason_slowly(traffic, rule, start, end)) for start, end in zip([0] + ends, ends)]


def random_cases(seed, many=300):
    """Return pairs of a traffic and a rule, most of them short, some with 40 items."""
    numbers = source(seed)
    short = [(random_traffic(numbers), random_rule(numbers)) for _ in range(many)]
    return short + [(long_traffic(numbers), random_rule(numbers)) for _ in range(many // 30)]


class NextClosingTest(unittest.TestCase):
    def test_goal(self):
        found = [next_closing(TRAFFIC, RULE, start) for start in range(9)]
        self.assertEqual(found, [3, 3, 4, 6, 6, 8, 8, None, None])

    def test_cap_closes_ahead_of_the_item_that_would_reach_it(self):
        rule = (None, ("weight", 4))
        self.assertEqual([next_closing(TRAFFIC, rule, start) for start in range(9)], [2, 2, 3, 5, 5, 7, 7, None, None])

    def test_a_single_item_that_reaches_the_cap(self):
        traffic = weights(9, 1, 9)
        rule = (None, ("weight", 9))
        # It is closed when a next item comes, and stays open at the end.
        self.assertEqual([next_closing(traffic, rule, start) for start in range(4)], [1, 2, None, None])
        self.assertIsNone(next_closing(weights(9), rule, 0))
        self.assertEqual(next_closing(weights(9, 0), rule, 0), 1)
        self.assertEqual(next_closing(weights(0, 9), rule, 0), 1)
        self.assertEqual([next_closing(ones(3), (None, ("items", 1)), start) for start in range(4)], [1, 2, None, None])

    def test_goal_at_the_end_of_the_traffic(self):
        self.assertEqual(next_closing(weights(9), (("weight", 9), None), 0), 1)
        self.assertEqual(next_closing(weights(9), (("weight", 9), ("weight", 9)), 0), 1)
        self.assertEqual(next_closing(ones(3), (("items", 3), None), 0), 3)
        self.assertIsNone(next_closing(ones(3), (None, ("items", 4)), 0))
        self.assertEqual(next_closing(ones(4), (None, ("items", 4)), 0), 3)

    def test_the_rule_without_goal_and_cap(self):
        for many in (0, 1, 40):
            for start in range(many + 1):
                self.assertIsNone(next_closing(ones(many), (None, None), start))

    def test_greatest_numbers(self):
        traffic = [(HUGE, HUGE, "a", True)] * 40
        self.assertEqual(next_closing(traffic, (("weight", HUGE), None), 7), 8)
        self.assertEqual(next_closing(traffic, (("age", HUGE), None), 7), 9)
        self.assertEqual(next_closing(traffic, (None, ("age", HUGE)), 7), 8)
        self.assertEqual(next_closing(traffic, (("marks", 40), None), 0), 40)
        self.assertEqual(next_closing(traffic, (None, ("marks", 40)), 0), 39)
        self.assertIsNone(next_closing(traffic, (("items", 40), None), 1))
        self.assertIsNone(next_closing(traffic, (("kinds", 2), ("kinds", 2)), 0))

    def test_nothing_but_zeros(self):
        traffic = [(0, 0, "a", False)] * 40
        for measure in ("weight", "age", "marks"):
            self.assertIsNone(next_closing(traffic, ((measure, 1), (measure, 1)), 0))

    def test_against_the_definition(self):
        for traffic, rule in random_cases(21):
            for start in range(len(traffic) + 1):
                self.assertEqual(next_closing(traffic, rule, start), next_slowly(traffic, rule, start), (traffic, rule))


class ClosingsTest(unittest.TestCase):
    def test_from_a_start(self):
        self.assertEqual(closings(TRAFFIC, RULE), [3, 6, 8])
        self.assertEqual(closings(TRAFFIC, RULE, start=0), [3, 6, 8])
        self.assertEqual(closings(TRAFFIC, RULE, start=2), [4, 6, 8])
        self.assertEqual(closings(TRAFFIC, RULE, start=8), [])

    def test_the_start_is_passed_by_name(self):
        with self.assertRaises(TypeError):
            closings(TRAFFIC, RULE, 2)

    def test_edges(self):
        self.assertEqual(closings([], RULE), [])
        self.assertEqual(closings(ones(1), (("items", 1), None)), [1])
        self.assertEqual(closings(ones(1), (None, ("items", 1))), [])
        self.assertEqual(closings(ones(40), (("items", 1), None)), list(range(1, 41)))
        self.assertEqual(closings(ones(40), (None, ("items", 1))), list(range(1, 40)))
        self.assertEqual(closings(ones(40), (("items", 3), ("items", 3))), list(range(2, 40, 2)))
        self.assertEqual(closings(ones(40), (None, None)), [])

    def test_against_the_definition(self):
        for traffic, rule in random_cases(22):
            for start in range(len(traffic) + 1):
                expected = closings_slowly(traffic, rule, start)
                self.assertEqual(closings(traffic, rule, start=start), expected, (traffic, rule))

    def test_rest(self):
        self.assertEqual(rest_of(TRAFFIC, RULE), 8)
        self.assertEqual(rest_of(TRAFFIC[:5], RULE), 3)
        self.assertEqual(rest_of(TRAFFIC[:2], RULE), 0)
        self.assertEqual(rest_of([], RULE), 0)
        for traffic, rule in random_cases(23):
            self.assertEqual(rest_of(traffic, rule), ([0] + closings_slowly(traffic, rule))[-1])


class ReasonTest(unittest.TestCase):
    def test_reasons(self):
        traffic = weights(7, 3, 1)
        rule = (("weight", 6), ("items", 2))
        self.assertEqual([reason_of(traffic, rule, gap) for gap in (1, 2)], ["both", "cap"])
        self.assertEqual(reason_of(TRAFFIC, RULE, 8), "goal")
        # At the end no next item comes, so the cap closes nothing there.
        self.assertEqual(reason_of(ones(2), (("items", 2), ("items", 2)), 1), "cap")
        self.assertEqual(reason_of(ones(3), (("items", 1), ("items", 1)), 3), "goal")

    def test_against_the_definition(self):
        for traffic, rule in random_cases(24):
            for start, end, reason in batches_slowly(traffic, rule):
                self.assertEqual(reason_of(traffic, rule, end), reason, (traffic, rule))

    def test_gaps_that_are_no_closing_from_the_beginning(self):
        for traffic, rule in random_cases(25, 100):
            found = closings_slowly(traffic, rule)
            for gap in range(-2, len(traffic) + 3):
                if gap not in found:
                    with self.assertRaises(InvalidGap):
                        reason_of(traffic, rule, gap)


class BatchTest(unittest.TestCase):
    def test_batches(self):
        found = [batch_of(TRAFFIC[:7], RULE, item) for item in range(7)]
        self.assertEqual(found, [(0, 3)] * 3 + [(3, 6)] * 3 + [(6, None)])
        self.assertEqual(batch_of(ones(1), (None, None), 0), (0, None))
        self.assertEqual(batch_of(ones(40), (("items", 40), None), 39), (0, 40))

    def test_against_the_definition(self):
        for traffic, rule in random_cases(26):
            gaps = [0] + closings_slowly(traffic, rule)
            for item in range(len(traffic)):
                start = max(gap for gap in gaps if gap <= item)
                end = min((gap for gap in gaps if gap > item), default=None)
                self.assertEqual(batch_of(traffic, rule, item), (start, end), (traffic, rule))

    def test_numbers_of_no_item(self):
        for item in [-1, 8, HUGE, True, False, 1.0, "1", None]:
            with self.assertRaises(InvalidItem):
                batch_of(TRAFFIC, RULE, item)
        with self.assertRaises(InvalidItem):
            batch_of([], RULE, 0)


class WalkTest(unittest.TestCase):
    def test_a_generator(self):
        self.assertTrue(inspect.isgeneratorfunction(walk_batches))
        self.assertTrue(inspect.isgenerator(walk_batches(TRAFFIC, RULE)))

    def test_batches_in_their_order(self):
        self.assertEqual(list(walk_batches(TRAFFIC, RULE)), [(0, 3, "goal"), (3, 6, "goal"), (6, 8, "goal")])
        self.assertEqual(list(walk_batches([], RULE)), [])
        self.assertEqual(list(walk_batches(TRAFFIC, (None, None))), [])

    def test_against_the_definition(self):
        for traffic, rule in random_cases(27):
            self.assertEqual(list(walk_batches(traffic, rule)), batches_slowly(traffic, rule), (traffic, rule))

    def test_all_batches_are_found_with_the_first_one(self):
        traffic, goal = list(TRAFFIC), [("items", 2), ("items", 3)]
        walked = walk_batches(traffic, (("all", goal), None))
        self.assertEqual(next(walked), (0, 3, "goal"))
        traffic.clear()
        goal.clear()
        self.assertEqual(list(walked), [(3, 6, "goal")])

    def test_errors_with_the_first_batch_at_the_latest(self):
        for traffic, rule, error in [
            (None, RULE, InvalidTraffic), (TRAFFIC, None, InvalidRule), (None, None, InvalidTraffic),
        ]:
            with self.assertRaises(error):
                next(walk_batches(traffic, rule))
