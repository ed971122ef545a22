"""Points 4, 10 and 39 to 43: joined gaps and the plans that keep joined items together."""

import unittest

from batchlimits.errors import Blocked, InvalidGaps
from batchlimits.forced import closings_with
from batchlimits.joined import (
    count_plans, forced_in, fewest_forced_plan, is_obstruction, latest_plan, obstruction_of,
)
from tests.slow import choices, closings_slowly, next_slowly
from tests.test_closings import RULE, TRAFFIC
from tests.test_forced import short_cases, wrong_lists
from tests.values import HUGE, long_traffic, odd_values, ones, random_rule, source

THREE = (("items", 3), None)
TWO = (("items", 2), None)
NEVER = (None, None)


def plans_slowly(traffic, rule):
    """Return for each list of forced closings the closings with them."""
    return {tuple(forced): closings_slowly(traffic, rule, forced=forced) for forced in gap_lists(traffic)}


def gap_lists(traffic):
    """Return all lists of different gaps from 1 to n."""
    return choices(range(1, len(traffic) + 1))


def joined_lists(traffic):
    """Return all lists of joined gaps."""
    return choices(range(1, len(traffic)))


def kept(plans, joined):
    """Return for each list of forced closings the closings with them, if none of these is joined."""
    return {forced: plan for forced, plan in plans.items() if not set(plan) & set(joined)}


def obstructions_slowly(traffic, rule, joined):
    """Return all obstructions, gap by gap."""
    pairs = [(gap, next_slowly(traffic, rule, gap)) for gap in range(len(traffic) + 1)]
    return [(gap, end) for gap, end in pairs if end and all(g in joined for g in range(gap + 1, end + 1))]


def forced_slowly(traffic, rule, plan):
    """Return the closings of a plan that are not the next closing of the one before."""
    return [gap for before, gap in zip([0] + plan, plan) if next_slowly(traffic, rule, before) != gap]


def latest_slowly(traffic, rule, joined):
    """Return the latest plan, from one closing to the next as the document says, or None."""
    plan = [0]
    while next_slowly(traffic, rule, plan[-1]) is not None:
        end = next_slowly(traffic, rule, plan[-1])
        free = [gap for gap in range(plan[-1] + 1, end + 1) if gap not in joined]
        if not free:
            return None
        plan.append(max(free))
    return plan[1:]


def fewest_slowly(traffic, rule, joined):
    """Return the least number of forced closings in a plan, from all that so many of them lead to, or None."""
    many = len(traffic)
    nexts = [next_slowly(traffic, rule, gap) for gap in range(many + 1)]
    reached = {0}
    for forced in range(many + 1):
        pending = sorted(reached)
        while pending:
            end = nexts[pending.pop()]
            if end is not None and end not in joined and end not in reached:
                reached.add(end)
                pending.append(end)
        if any(nexts[gap] is None for gap in reached):
            return forced
        reached |= {g for b in reached for g in range(b + 1, nexts[b] or many + 1) if g not in joined}
    return None


def long_cases(seed, many):
    """Return a traffic of 40 items, a rule and joined gaps: a few, most or all of them."""
    numbers = source(seed)
    for _ in range(many):
        joined = sorted(numbers.sample(range(1, 40), numbers.choice([0, 3, 10, 20, 30, 39])))
        yield long_traffic(numbers), random_rule(numbers), joined


class LatestPlanTest(unittest.TestCase):
    def test_plans(self):
        self.assertEqual(latest_plan(ones(8), THREE, [3, 4]), [2, 5, 8])
        self.assertEqual(latest_plan(TRAFFIC, RULE, []), [3, 6, 8])
        self.assertEqual(latest_plan(TRAFFIC, RULE, [3]), [2, 4, 6, 8])

    def test_edges(self):
        self.assertEqual(latest_plan([], RULE, []), [])
        self.assertEqual(latest_plan(ones(1), RULE, []), [])
        self.assertEqual(latest_plan(ones(1), (("items", 1), None), []), [1])
        self.assertEqual(latest_plan(ones(40), NEVER, list(range(1, 40))), [])
        self.assertEqual(latest_plan(ones(40), (("items", 40), None), list(range(1, 40))), [40])
        self.assertEqual(latest_plan(ones(40), (("items", 20), None), list(range(2, 21))), [1, 21])
        self.assertEqual(latest_plan(ones(40), (("items", 39), None), [1, 39]), [38])
        self.assertEqual(latest_plan(ones(8), TWO, [1, 3, 5, 7]), [2, 4, 6, 8])

    def test_blocked(self):
        for traffic, rule, joined, stretch in [
            (ones(8), TWO, [3, 4], (2, 4)),
            (ones(8), TWO, [2, 3], (1, 3)),
            (ones(40), TWO, list(range(1, 40)), (0, 2)),
            (ones(40), (("items", 39), None), list(range(1, 40)), (0, 39)),
            (ones(40), (None, ("items", 40)), list(range(1, 40)), (0, 39)),
            (ones(2), (("items", 1), None), [1], (0, 1)),
        ]:
            for function in (latest_plan, fewest_forced_plan):
                with self.assertRaises(Blocked) as caught:
                    function(traffic, rule, joined)
                self.assertEqual(vars(caught.exception), {"stretch": stretch})

    def test_all_plans_of_short_traffic(self):
        for traffic, rule in short_cases(71, 150):
            plans = plans_slowly(traffic, rule)
            for joined in joined_lists(traffic):
                found = list(kept(plans, joined).values())
                if not found:
                    with self.assertRaises(Blocked):
                        latest_plan(traffic, rule, joined)
                    continue
                latest = latest_plan(traffic, rule, joined)
                self.assertIn(latest, found)
                self.assertEqual(len(latest), min(map(len, found)))
                for plan in found:
                    self.assertTrue(all(gap <= last for gap, last in zip(plan, latest)), (traffic, rule, joined))

    def test_long_traffic(self):
        for traffic, rule, joined in long_cases(72, 100):
            expected = latest_slowly(traffic, rule, joined)
            if expected is None:
                with self.assertRaises(Blocked):
                    latest_plan(traffic, rule, joined)
            else:
                self.assertEqual(latest_plan(traffic, rule, joined), expected)


class FewestForcedPlanTest(unittest.TestCase):
    def test_the_latest_plan_can_need_more(self):
        traffic, rule, joined = ones(10), (("items", 4), None), [4, 7]
        plan = latest_plan(traffic, rule, joined)
        self.assertEqual([plan, forced_in(traffic, rule, plan)], [[3, 6, 10], [3, 6]])
        self.assertEqual(len(fewest_forced_plan(traffic, rule, joined)), 1)

    def test_edges(self):
        self.assertEqual(fewest_forced_plan([], RULE, []), [])
        self.assertEqual(fewest_forced_plan(ones(1), RULE, []), [])
        self.assertEqual(fewest_forced_plan(ones(40), NEVER, list(range(1, 40))), [])
        self.assertEqual(fewest_forced_plan(ones(40), TWO, list(range(1, 40, 2))), [])
        self.assertEqual(fewest_forced_plan(ones(40), TWO, list(range(2, 40, 2))), [1])
        self.assertEqual(fewest_forced_plan(ones(40), (("items", 20), None), list(range(2, 21))), [1])

    def test_all_forced_closings_of_short_traffic(self):
        for traffic, rule in short_cases(73, 150):
            plans = plans_slowly(traffic, rule)
            for joined in joined_lists(traffic):
                found = kept(plans, joined)
                if not found:
                    with self.assertRaises(Blocked):
                        fewest_forced_plan(traffic, rule, joined)
                    continue
                forced = fewest_forced_plan(traffic, rule, joined)
                self.assertIsInstance(forced, list)
                self.assertIn(tuple(forced), found, (traffic, rule, joined))
                self.assertEqual(len(forced), min(map(len, found)), (traffic, rule, joined))

    def test_long_traffic(self):
        for traffic, rule, joined in long_cases(74, 100):
            expected = fewest_slowly(traffic, rule, joined)
            if expected is None:
                with self.assertRaises(Blocked):
                    fewest_forced_plan(traffic, rule, joined)
                continue
            forced = fewest_forced_plan(traffic, rule, joined)
            self.assertEqual(len(forced), expected, (traffic, rule, joined))
            self.assertFalse(set(closings_with(traffic, rule, forced)) & set(joined))
            latest = latest_plan(traffic, rule, joined)
            self.assertGreaterEqual(len(forced_in(traffic, rule, latest)), expected)
            self.assertEqual(forced_in(traffic, rule, closings_with(traffic, rule, forced)), forced)


class ForcedInTest(unittest.TestCase):
    def test_forced_closings(self):
        self.assertEqual(forced_in(ones(8), THREE, [2, 5, 7]), [2, 7])
        self.assertEqual(forced_in(ones(8), THREE, [3, 6]), [])
        self.assertEqual(forced_in(ones(8), THREE, [3, 6, 7]), [7])
        self.assertEqual(forced_in(ones(8), THREE, list(range(1, 9))), list(range(1, 9)))
        self.assertEqual(forced_in([], THREE, []), [])
        self.assertEqual(forced_in(ones(40), NEVER, []), [])
        self.assertEqual(forced_in(ones(40), NEVER, [1, 40]), [1, 40])

    def test_lists_that_are_no_closings(self):
        for closings in [[2, 6], [4], [3], [], [3, 5], [2], [3, 6, 8, 9]]:
            with self.assertRaises(InvalidGaps):
                forced_in(ones(8), THREE, closings)

    def test_all_lists_of_gaps_of_short_traffic(self):
        for traffic, rule in short_cases(75, 150):
            plans = list(plans_slowly(traffic, rule).values())
            for closings in gap_lists(traffic):
                if closings in plans:
                    expected = forced_slowly(traffic, rule, closings)
                    self.assertEqual(forced_in(traffic, rule, closings), expected)
                    self.assertEqual(closings_slowly(traffic, rule, forced=expected), closings)
                else:
                    with self.assertRaises(InvalidGaps):
                        forced_in(traffic, rule, closings)

    def test_values_that_are_no_lists_of_gaps(self):
        for value in wrong_lists(8):
            with self.assertRaises(InvalidGaps):
                forced_in(ones(8), NEVER, value)


class ObstructionTest(unittest.TestCase):
    def test_obstructions(self):
        self.assertEqual(obstruction_of(ones(8), TWO, [3, 4]), (2, 4))
        self.assertIsNone(obstruction_of(ones(8), TWO, [3, 5]))
        self.assertIs(is_obstruction(ones(8), TWO, [3, 4], (2, 4)), True)
        self.assertIs(is_obstruction(ones(8), TWO, [3, 4], (3, 5)), False)
        self.assertIs(is_obstruction(ones(8), TWO, [3, 4, 5], (3, 5)), True)
        self.assertIsNone(obstruction_of([], TWO, []))
        self.assertIsNone(obstruction_of(ones(1), TWO, []))
        self.assertEqual(obstruction_of(ones(40), (("items", 39), None), list(range(1, 40))), (0, 39))
        self.assertIsNone(obstruction_of(ones(40), (("items", 40), None), list(range(1, 40))))
        self.assertEqual(obstruction_of(ones(40), (("items", 1), None), [39]), (38, 39))
        self.assertEqual(obstruction_of(ones(40), (("items", 1), None), [1, 39]), (0, 1))

    def test_all_gaps_of_short_traffic(self):
        for traffic, rule in short_cases(76, 100):
            gaps = range(-1, len(traffic) + 2)
            plans = plans_slowly(traffic, rule)
            for joined in joined_lists(traffic):
                found = obstructions_slowly(traffic, rule, joined)
                least = found[0] if found else None
                self.assertEqual(obstruction_of(traffic, rule, joined), least, (traffic, rule, joined))
                self.assertEqual(least is None, bool(kept(plans, joined)))
                for value in [(gap, end) for gap in gaps for end in gaps]:
                    self.assertIs(is_obstruction(traffic, rule, joined, value), value in found)
                if found:
                    with self.assertRaises(Blocked) as caught:
                        latest_plan(traffic, rule, joined)
                    self.assertEqual(caught.exception.stretch, least)

    def test_long_traffic(self):
        for traffic, rule, joined in long_cases(77, 100):
            found = obstructions_slowly(traffic, rule, joined)
            self.assertEqual(obstruction_of(traffic, rule, joined), found[0] if found else None)

    def test_any_value_that_is_no_obstruction(self):
        values = [
            [2, 4], (2, 4, 6), (2,), (2.0, 4), (2, 4.0), ("2", 4), (True, 3), (False, 2), (2, None), (None, 4),
            (-1, 4), (2, HUGE), ((2, 4),), ({}, []), {2: 4}, {2, 4}, "24", (9, 11), (8, None), (7, 9),
        ]
        for at, value in enumerate(odd_values() + values):
            with self.subTest(at=at):
                self.assertIs(is_obstruction(ones(8), TWO, list(range(1, 8)), value), False)

    def test_true_and_false_are_no_gaps(self):
        joined = list(range(1, 8))
        self.assertIs(is_obstruction(ones(8), TWO, joined, (1, 3)), True)
        self.assertIs(is_obstruction(ones(8), TWO, joined, (True, 3)), False)
        self.assertIs(is_obstruction(ones(8), TWO, joined, (0, 2)), True)
        self.assertIs(is_obstruction(ones(8), TWO, joined, (False, 2)), False)
        self.assertIs(is_obstruction(ones(8), (("items", 1), None), joined, (0, True)), False)


class CountTest(unittest.TestCase):
    def test_numbers(self):
        self.assertEqual(count_plans(ones(3), TWO, [1]), 2)
        self.assertEqual(count_plans(ones(3), NEVER, []), 8)
        self.assertEqual(count_plans([], NEVER, []), 1)
        self.assertEqual(count_plans(ones(8), TWO, [3, 4]), 0)

    def test_up_to_forty_items_and_no_rule(self):
        for many in range(41):
            self.assertEqual(count_plans(ones(many), NEVER, []), 2 ** many)
            self.assertEqual(count_plans(ones(many), NEVER, list(range(1, many))), min(2 ** many, 2))
        self.assertEqual(count_plans(ones(40), NEVER, [1, 39]), 2 ** 38)

    def test_forty_items_and_a_rule(self):
        ways = [1, 1]
        while len(ways) < 41:
            ways.append(ways[-1] + ways[-2])
        # From each gap to one of the next two, from gap 39 only to gap 40 or to the end.
        self.assertEqual(count_plans(ones(40), TWO, []), ways[39] + ways[40])
        self.assertEqual(count_plans(ones(40), (("items", 1), None), []), 1)
        self.assertEqual(count_plans(ones(40), (("items", 40), None), []), 2 ** 39 + 2 ** 39 - 1)

    def test_all_plans_of_short_traffic(self):
        for traffic, rule in short_cases(78, 150):
            plans = plans_slowly(traffic, rule)
            for joined in joined_lists(traffic):
                found = {tuple(plan) for plan in kept(plans, joined).values()}
                self.assertEqual(count_plans(traffic, rule, joined), len(found), (traffic, rule, joined))

    def test_long_traffic(self):
        for traffic, rule, joined in long_cases(79, 100):
            many = count_plans(traffic, rule, joined)
            self.assertEqual(many == 0, bool(obstructions_slowly(traffic, rule, joined)))
            self.assertEqual(many, ways_slowly(traffic, rule, joined, 0, {}))


def ways_slowly(traffic, rule, joined, gap, known):
    """Return in how many ways a plan can go on from a gap."""
    if gap not in known:
        end = next_slowly(traffic, rule, gap)
        free = [g for g in range(gap + 1, (len(traffic) if end is None else end) + 1) if g not in joined]
        ways = sum(ways_slowly(traffic, rule, joined, g, known) for g in free)
        known[gap] = ways + (1 if end is None else 0)
    return known[gap]


class JoinedGapsTest(unittest.TestCase):
    def test_lists_that_are_no_joined_gaps(self):
        for at, value in enumerate(wrong_lists(7) + [[8], [1, 8]]):
            with self.subTest(at=at):
                for function in (latest_plan, fewest_forced_plan, obstruction_of, count_plans):
                    with self.assertRaises(InvalidGaps):
                        function(ones(8), THREE, value)
                with self.assertRaises(InvalidGaps):
                    is_obstruction(ones(8), THREE, value, (0, 3))

    def test_no_gap_of_a_short_traffic_can_be_joined(self):
        for traffic in ([], ones(1)):
            for value in [[0], [1]]:
                for function in (latest_plan, fewest_forced_plan, obstruction_of, count_plans):
                    with self.assertRaises(InvalidGaps):
                        function(traffic, NEVER, value)
