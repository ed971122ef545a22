"""Points 4, 9 and 35 to 38: forced closings and what they cost."""

import unittest

from batchlimits.closings import closings
from batchlimits.errors import InvalidGap, InvalidGaps
from batchlimits.forced import added_by, closings_with, costs_of, fewest_forced, is_enough
from tests.slow import choices, closings_slowly, next_slowly
from tests.test_closings import RULE, TRAFFIC, random_cases
from tests.values import HUGE, long_traffic, ones, random_rule, random_traffic, source


def short_cases(seed, many):
    """Return pairs of a traffic of at most five items and a rule."""
    numbers = source(seed)
    return [(random_traffic(numbers, 5), random_rule(numbers)) for _ in range(many)]


def long_cases(seed, many):
    """Return a traffic of 40 items, a rule and two lists of gaps."""
    numbers = source(seed)
    for _ in range(many):
        some, others = [sorted(numbers.sample(range(1, 41), numbers.randrange(12))) for _ in range(2)]
        yield long_traffic(numbers), random_rule(numbers), some, others


def wrong_lists(many):
    """Return lists of which none is one of strictly ascending gaps from 1 on up to so many."""
    return [
        [0], [-1], [many + 1], [HUGE], [1, 1], [2, 1], [1, 3, 2], [1, 2, 2], [0, 1], [many, many + 1],
        list(range(many + 1)),
        [True], [False], [True, 2], [1, True], [1.0], [1, 2.0], ["1"], [None], [1, None], [[1]], [(1,)], [[]], [{}],
        [1, [2]], (1, 2), (1,), {1: 2}, {1, 2}, "12", 1, range(1, 3),
    ]


class ClosingsWithTest(unittest.TestCase):
    def test_forced_closings(self):
        found = [closings_with(TRAFFIC, RULE, forced) for forced in [[], [4], [2], [5]]]
        self.assertEqual(found, [[3, 6, 8], [3, 4, 6, 8], [2, 4, 6, 8], [3, 5, 8]])

    def test_edges(self):
        self.assertEqual(closings_with([], RULE, []), [])
        self.assertEqual(closings_with(ones(1), (None, None), [1]), [1])
        self.assertEqual(closings_with(ones(40), (None, None), [1, 40]), [1, 40])
        self.assertEqual(closings_with(ones(40), (("items", 40), None), [1]), [1])
        self.assertEqual(closings_with(ones(40), (None, None), list(range(1, 41))), list(range(1, 41)))
        self.assertEqual(closings_with(TRAFFIC, RULE, [3, 6, 8]), [3, 6, 8])
        # The batch that begins at a forced gap is a new one for the cap, too.
        self.assertEqual(closings_with(ones(5), (None, ("items", 4)), [2]), [2])
        self.assertEqual(closings_with(ones(6), (None, ("items", 4)), [2]), [2, 5])

    def test_without_forced_closings(self):
        for traffic, rule in random_cases(61):
            self.assertEqual(closings_with(traffic, rule, []), closings(traffic, rule))

    def test_all_forced_closings_of_short_traffic(self):
        for traffic, rule in short_cases(62, 60):
            for forced in choices(range(1, len(traffic) + 1)):
                expected = closings_slowly(traffic, rule, forced=forced)
                self.assertEqual(closings_with(traffic, rule, forced), expected, (traffic, rule, forced))

    def test_long_traffic(self):
        for traffic, rule, forced, _ in long_cases(63, 20):
            self.assertEqual(closings_with(traffic, rule, forced), closings_slowly(traffic, rule, forced=forced))

    def test_the_earlier_gap_has_the_earlier_closing(self):
        for traffic, rule in short_cases(64, 30):
            gaps = range(len(traffic) + 1)
            for forced in choices(gaps[1:]):
                nexts = [next_slowly(traffic, rule, start, forced) or HUGE for start in gaps]
                self.assertEqual(nexts, sorted(nexts))


class CostsTest(unittest.TestCase):
    def test_costs(self):
        self.assertEqual([added_by(TRAFFIC, RULE, [], 4), added_by(TRAFFIC, RULE, [4], 5)], [1, 0])
        self.assertEqual(costs_of(TRAFFIC, RULE), [1, 1, 0, 1, 0, 0, 0, 0])
        self.assertEqual(added_by(TRAFFIC, RULE, [4], 4), 0)
        self.assertEqual(added_by(ones(1), (None, None), [], 1), 1)
        self.assertEqual(added_by(ones(40), (None, None), list(range(1, 40)), 40), 1)

    def test_edges(self):
        self.assertEqual(costs_of([], RULE), [])
        self.assertEqual(costs_of(ones(1), (("items", 1), None)), [0])
        self.assertEqual(costs_of(ones(1), (None, ("items", 1))), [1])
        self.assertEqual(costs_of(ones(40), (None, None)), [1] * 40)
        self.assertEqual(costs_of(ones(40), (("items", 1), None)), [0] * 40)

    def test_all_forced_closings_of_short_traffic(self):
        for traffic, rule in short_cases(65, 40):
            gaps = range(1, len(traffic) + 1)
            for forced in choices(gaps):
                before = len(closings_slowly(traffic, rule, forced=forced))
                for gap in gaps:
                    added = len(closings_slowly(traffic, rule, forced=[*forced, gap])) - before
                    self.assertIn(added, (0, 1))
                    self.assertEqual(added_by(traffic, rule, forced, gap), added, (traffic, rule, forced, gap))

    def test_each_gap_alone(self):
        for traffic, rule in random_cases(66):
            before = len(closings_slowly(traffic, rule))
            gaps = range(1, len(traffic) + 1)
            expected = [len(closings_slowly(traffic, rule, forced=[gap])) - before for gap in gaps]
            self.assertEqual(costs_of(traffic, rule), expected, (traffic, rule))
            self.assertEqual([added_by(traffic, rule, [], gap) for gap in gaps], expected, (traffic, rule))

    def test_wrong_gap(self):
        for gap in [0, -1, 9, HUGE, True, False, 1.0, "1", None, [1]]:
            with self.assertRaises(InvalidGap):
                added_by(TRAFFIC, RULE, [4], gap)
        for gap in (0, 1):
            with self.assertRaises(InvalidGap):
                added_by([], RULE, [], gap)


class FewestTest(unittest.TestCase):
    def test_told_gaps(self):
        self.assertEqual([fewest_forced(TRAFFIC, RULE, told) for told in [[4, 8], [3, 5], [3, 8]]], [[4], [5], []])
        self.assertEqual(fewest_forced(TRAFFIC, RULE, []), [])
        self.assertEqual(fewest_forced([], RULE, []), [])
        self.assertEqual(fewest_forced(ones(40), (None, None), [1, 40]), [1, 40])
        self.assertEqual(fewest_forced(ones(40), (("items", 2), None), [1, 40]), [1, 40])
        self.assertEqual(fewest_forced(ones(40), (("items", 2), None), [2, 4, 5, 7, 40]), [5, 40])

    def test_all_told_gaps_of_short_traffic(self):
        for traffic, rule in short_cases(67, 40):
            sets = choices(range(1, len(traffic) + 1))
            found = {tuple(forced): closings_slowly(traffic, rule, forced=forced) for forced in sets}
            for told in sets:
                enough = [forced for forced in sets if set(told) <= set(found[tuple(forced)])]
                needed = fewest_forced(traffic, rule, told)
                self.assertIn(needed, enough, (traffic, rule, told))
                self.assertEqual(len(needed), min(map(len, enough)), (traffic, rule, told))
                self.assertEqual(needed, needed_slowly(traffic, rule, told))

    def test_long_traffic(self):
        for traffic, rule, told, _ in long_cases(68, 20):
            needed = fewest_forced(traffic, rule, told)
            self.assertEqual(needed, needed_slowly(traffic, rule, told))
            self.assertIs(is_enough(traffic, rule, told, needed), True)
            for gap in needed:
                self.assertIs(is_enough(traffic, rule, told, [other for other in needed if other != gap]), False)


def needed_slowly(traffic, rule, told):
    """Return the told gaps that are no closing from the told gap before."""
    pairs = zip([0] + told, told)
    return [gap for before, gap in pairs if gap not in closings_slowly(traffic, rule, before)]


class EnoughTest(unittest.TestCase):
    def test_told_gaps(self):
        self.assertIs(is_enough(TRAFFIC, RULE, [4, 8], [4]), True)
        self.assertIs(is_enough(TRAFFIC, RULE, [3, 5], [4]), False)
        self.assertIs(is_enough(TRAFFIC, RULE, [], []), True)
        self.assertIs(is_enough([], RULE, [], []), True)
        self.assertIs(is_enough(ones(40), (None, None), [40], []), False)
        self.assertIs(is_enough(ones(40), (None, None), [40], [1, 40]), True)

    def test_all_told_and_forced_gaps_of_short_traffic(self):
        for traffic, rule in short_cases(69, 20):
            sets = choices(range(1, min(len(traffic), 4) + 1))
            for forced in sets:
                found = closings_slowly(traffic, rule, forced=forced)
                for told in sets:
                    self.assertIs(is_enough(traffic, rule, told, forced), set(told) <= set(found))

    def test_long_traffic(self):
        for traffic, rule, told, forced in long_cases(70, 20):
            found = closings_slowly(traffic, rule, forced=forced)
            self.assertIs(is_enough(traffic, rule, told, forced), set(told) <= set(found))
            self.assertIs(is_enough(traffic, rule, forced, forced), True)


class WrongGapsTest(unittest.TestCase):
    def test_lists_that_are_no_forced_closings(self):
        for at, value in enumerate(wrong_lists(8)):
            with self.subTest(at=at):
                for call in [
                    lambda: closings_with(TRAFFIC, RULE, value), lambda: added_by(TRAFFIC, RULE, value, 4),
                    lambda: fewest_forced(TRAFFIC, RULE, value), lambda: is_enough(TRAFFIC, RULE, value, []),
                    lambda: is_enough(TRAFFIC, RULE, [], value),
                ]:
                    with self.assertRaises(InvalidGaps):
                        call()

    def test_no_gap_of_an_empty_traffic_can_be_forced(self):
        for value in [[0], [1]]:
            with self.assertRaises(InvalidGaps):
                closings_with([], RULE, value)
