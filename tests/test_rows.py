"""Points 4, 8 and 25 to 28: rows from several starts."""

import unittest

from batchlimits.closings import closings
from batchlimits.errors import InvalidNumber
from batchlimits.rows import certain_closings, kth_range, meeting, possible_closings, starts_with
from tests.slow import rows_slowly
from tests.test_closings import RULE, TRAFFIC, random_cases
from tests.values import HUGE, ones


def ranges(many):
    """Return all pairs of gaps low and high."""
    return [(low, high) for high in range(many + 1) for low in range(high + 1)]


def alternate(first, second):
    """Return whether between two neighbours of one row the other one has exactly one gap, until they meet."""
    behind = max(first[0], second[0])
    common = min(set(first) & set(second), default=HUGE)
    marked = [(gap, name) for name, row in enumerate((first, second)) for gap in row if behind <= gap < common]
    names = [name for gap, name in sorted(marked)]
    return all(name != other for name, other in zip(names, names[1:]))


class MeetingTest(unittest.TestCase):
    def test_meetings(self):
        self.assertEqual([meeting(TRAFFIC, RULE, 0, 2), meeting(TRAFFIC, RULE, 3, 0)], [6, 3])
        self.assertIsNone(meeting(TRAFFIC, RULE, 7, 0))
        self.assertEqual(meeting(TRAFFIC, RULE, 8, 0), 8)
        self.assertEqual(meeting(TRAFFIC, RULE, 7, 7), 7)
        self.assertEqual(meeting([], RULE, 0, 0), 0)
        self.assertEqual(meeting(ones(40), (("items", 2), None), 0, 38), 38)
        self.assertIsNone(meeting(ones(40), (("items", 2), None), 0, 39))
        self.assertIsNone(meeting(ones(40), (None, None), 0, 40))

    def test_against_all_rows(self):
        for traffic, rule in random_cases(31):
            rows = [[start] + found for start, found in enumerate(rows_slowly(traffic, rule))]
            for first in rows:
                for second in rows:
                    common = [gap for gap in first if gap in second]
                    found = meeting(traffic, rule, first[0], second[0])
                    self.assertEqual(found, min(common, default=None), (traffic, rule))
                    if common:
                        self.assertEqual(first[first.index(found):], second[second.index(found):])

    def test_rows_are_never_overtaken_and_take_turns(self):
        for traffic, rule in random_cases(32):
            rows = [[start] + closings(traffic, rule, start=start) for start in range(len(traffic) + 1)]
            for high, later in enumerate(rows):
                for earlier in rows[:high]:
                    self.assertGreaterEqual(len(earlier), len(later))
                    self.assertTrue(all(gap <= other for gap, other in zip(earlier, later)))
                    self.assertTrue(alternate(earlier, later), (traffic, rule))


class UnknownStartTest(unittest.TestCase):
    def test_certain_and_possible(self):
        self.assertEqual(certain_closings(TRAFFIC, RULE, 0, 2), [6, 8])
        self.assertEqual(possible_closings(TRAFFIC, RULE, 0, 2), [3, 4, 6, 8])
        self.assertEqual(certain_closings(TRAFFIC, RULE, 3, 4), [6, 8])
        # A start is no closing from itself, but may be one from another start.
        self.assertEqual(certain_closings(TRAFFIC, RULE, 3, 3), [6, 8])
        self.assertEqual(possible_closings(TRAFFIC, RULE, 3, 3), [6, 8])
        self.assertEqual(possible_closings(TRAFFIC, RULE, 0, 3), [3, 4, 6, 8])
        self.assertEqual(certain_closings(TRAFFIC, RULE, 0, 8), [])
        self.assertEqual(certain_closings([], RULE, 0, 0), [])
        self.assertEqual(possible_closings([], RULE, 0, 0), [])
        self.assertEqual(possible_closings(ones(40), (("items", 1), None), 0, 40), list(range(1, 41)))
        self.assertEqual(certain_closings(ones(40), (("items", 1), None), 0, 39), [40])

    def test_against_all_rows(self):
        for traffic, rule in random_cases(33, 200):
            rows = rows_slowly(traffic, rule)
            for low, high in ranges(len(traffic)):
                starts = rows[low:high + 1]
                gaps = range(len(traffic) + 1)
                certain = [gap for gap in gaps if all(gap in found for found in starts)]
                possible = [gap for gap in gaps if any(gap in found for found in starts)]
                self.assertEqual(certain_closings(traffic, rule, low, high), certain, (traffic, rule))
                self.assertEqual(possible_closings(traffic, rule, low, high), possible, (traffic, rule))


class NumberedTest(unittest.TestCase):
    def test_ranges(self):
        self.assertEqual(kth_range(TRAFFIC, RULE, 0, 2, 1), (3, 4))
        self.assertEqual(kth_range(TRAFFIC, RULE, 0, 3, 3), (8, None))
        self.assertEqual(kth_range(TRAFFIC, RULE, 0, 3, 4), (None, None))
        self.assertEqual(kth_range(TRAFFIC, RULE, 0, 0, 3), (8, 8))
        self.assertEqual(kth_range(TRAFFIC, RULE, 0, 8, HUGE), (None, None))
        self.assertEqual(kth_range([], RULE, 0, 0, 1), (None, None))
        self.assertEqual(kth_range(ones(40), (("items", 1), None), 0, 0, 40), (40, 40))

    def test_against_all_rows(self):
        for traffic, rule in random_cases(34, 150):
            rows = rows_slowly(traffic, rule)
            for low, high in ranges(len(traffic)):
                for number in range(1, 7):
                    numbered = [found[number - 1] for found in rows[low:high + 1] if len(found) >= number]
                    greatest = max(numbered) if len(numbered) == high - low + 1 else None
                    expected = (min(numbered, default=None), greatest)
                    self.assertEqual(kth_range(traffic, rule, low, high, number), expected, (traffic, rule))

    def test_wrong_numbers(self):
        for number in [0, -1, -HUGE, True, False, 1.0, "1", None, [1]]:
            with self.assertRaises(InvalidNumber):
                kth_range(TRAFFIC, RULE, 0, 2, number)


class StartsTest(unittest.TestCase):
    def test_starts(self):
        self.assertEqual([starts_with(TRAFFIC, RULE, gap) for gap in (0, 3, 4)], [[], [0, 1], [2]])
        self.assertEqual(starts_with(TRAFFIC, RULE, 6), [0, 1, 2, 3, 4])
        self.assertEqual(starts_with(TRAFFIC, RULE, 7), [])
        self.assertEqual(starts_with([], RULE, 0), [])
        self.assertEqual(starts_with(ones(40), (("items", 1), None), 40), list(range(40)))
        self.assertEqual(starts_with(ones(40), (None, ("items", 1)), 40), [])

    def test_against_all_rows(self):
        for traffic, rule in random_cases(35):
            rows = rows_slowly(traffic, rule)
            for gap in range(len(traffic) + 1):
                expected = [start for start, found in enumerate(rows) if gap in found]
                self.assertEqual(starts_with(traffic, rule, gap), expected, (traffic, rule))
