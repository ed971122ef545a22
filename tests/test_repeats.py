"""Points 13 and 65 to 69: traffic that repeats."""

import unittest

from batchlimits.closings import closings
from batchlimits.errors import InvalidGap, InvalidNumber, InvalidPattern, InvalidRule, InvalidStretch
from batchlimits.items import measures_of, repeated
from batchlimits.repeats import count_closings, far_closing, far_measures, far_meeting, nth_closing, round_of
from batchlimits.rows import meeting
from tests.slow import measured_slowly, next_slowly
from tests.test_items import wrong_traffics
from tests.test_rules import wrong_rules
from tests.values import HUGE, odd_values, ones, random_condition, random_item, random_rule, source, weights

PATTERN = [(2, 3, "a", False), (1, 1, "b", True)]
FIVE = (("weight", 5), None)
NEVER = (None, None)
NO_FAR_GAPS = [value for value in odd_values() if value.__class__ is not int] + [-1, -HUGE, HUGE + 1, 10 * HUGE]


def random_pattern(numbers, most=6):
    return [random_item(numbers) for _ in range(numbers.randrange(1, most + 1))]


def cases(seed, many, most=6):
    """Return pairs of a pattern and a rule; some patterns have 20 items, some rules never close."""
    numbers = source(seed)
    for turn in range(many):
        pattern = random_pattern(numbers, most)
        if turn % 25 == 0:
            pattern = [random_item(numbers) for _ in range(20)]
        yield pattern, random_rule(numbers, 4)


def next_far_slowly(pattern, rule, start):
    """Return the next closing of a far gap, gap by gap; None if there is none within many rounds."""
    place = start % len(pattern)
    # Each bound of these tests is at most 5: what can be reached is reached within so many rounds.
    found = next_slowly(pattern * 9, rule, place)
    return None if found is None else found - place + start


def row_slowly(pattern, rule, start, many):
    """Return a start and so many closings from it, or all of them if the row ends."""
    row = [start]
    while len(row) <= many and row[-1] is not None:
        row.append(next_far_slowly(pattern, rule, row[-1]))
    return [gap for gap in row if gap is not None]


class MeasuresTest(unittest.TestCase):
    def test_measures(self):
        self.assertEqual(far_measures(PATTERN, 1, 4), (3, 5, 3, 2, 2))
        self.assertEqual(far_measures(PATTERN, 0, HUGE)[1], 2 * HUGE)
        self.assertEqual(far_measures(PATTERN, 0, HUGE), (HUGE, 2 * HUGE, 3 * HUGE // 2 - 2, 2, HUGE // 2))
        self.assertEqual(far_measures(PATTERN, HUGE - 1, HUGE), (1, 1, 0, 1, 1))
        self.assertEqual(far_measures([(7, 3, "a", True)], 5, 6), (1, 3, 0, 1, 1))
        self.assertEqual(far_measures([(7, 3, "a", True)], 0, HUGE), (HUGE, 3 * HUGE, 7 * HUGE - 7, 1, HUGE))
        great = [(HUGE, HUGE, "a", True)] * 20
        self.assertEqual(far_measures(great, 0, HUGE), (HUGE, HUGE * HUGE, HUGE * HUGE - HUGE, 1, HUGE))

    def test_the_kinds_of_a_short_and_of_a_long_stretch(self):
        pattern = [(0, 0, kind, False) for kind in "aabc"]
        found = [[far_measures(pattern, start, start + many)[3] for many in (1, 2, 3, 4, 5, 9)] for start in range(4)]
        expected = [[1, 1, 2, 3, 3, 3], [1, 2, 3, 3, 3, 3], [1, 2, 3, 3, 3, 3], [1, 2, 2, 3, 3, 3]]
        self.assertEqual(found, expected)

    def test_patterns_written_out(self):
        for pattern, _ in cases(151, 60):
            times = 40 // len(pattern)
            traffic = repeated(pattern, times)
            for start in range(len(traffic)):
                for end in range(start + 1, len(traffic) + 1):
                    found = far_measures(pattern, start, end)
                    self.assertEqual(found, measures_of(traffic, start, end))
                    self.assertTrue(all(number.__class__ is int for number in found))

    def test_far_stretches(self):
        numbers = source(152)
        for pattern, _ in cases(153, 100):
            many, rounds = len(pattern), numbers.randrange(HUGE // 30)
            start = numbers.randrange(5 * many)
            short = measured_slowly(pattern * 9, start, start + many + numbers.randrange(1, 3 * many))
            items, weight, age, kinds, marks = measured_slowly(pattern * 2, 0, 2 * many)
            whole = measured_slowly(pattern, 0, many)
            # What one round more adds to a stretch.
            added = [items - whole[0], weight - whole[1], age - whole[2], 0, marks - whole[4]]
            expected = tuple(number + rounds * more for number, more in zip(short, added))
            shift = many * numbers.randrange(HUGE // 100)
            found = far_measures(pattern, start + shift, start + shift + short[0] + rounds * many)
            self.assertEqual(found, expected)

    def test_no_stretches(self):
        for value in NO_FAR_GAPS:
            for start, end in [(value, 5), (0, value), (value, value)]:
                with self.assertRaises(InvalidStretch):
                    far_measures(PATTERN, start, end)
        for start, end in [(0, 0), (5, 4), (HUGE, HUGE), (HUGE, 0)]:
            with self.assertRaises(InvalidStretch):
                far_measures(PATTERN, start, end)


class FarClosingTest(unittest.TestCase):
    def test_closings(self):
        self.assertEqual([far_closing(PATTERN, FIVE, start) for start in (0, 1)], [3, 4])
        self.assertIsNone(far_closing(PATTERN, (("kinds", 3), None), 7))
        self.assertEqual(far_closing(PATTERN, FIVE, HUGE), HUGE + 3)
        self.assertEqual(far_closing(PATTERN, (("items", 40), None), HUGE), HUGE + 40)
        self.assertEqual(far_closing(PATTERN, (None, ("items", 40)), HUGE), HUGE + 39)

    def test_great_bounds(self):
        pattern = [(1, 0, "a", False), (0, 1, "a", False), (0, 0, "a", True)]
        self.assertEqual(far_closing(pattern, (("weight", HUGE), None), 0), 3 * HUGE - 1)
        self.assertEqual(far_closing(pattern, (("weight", HUGE), None), 1), 3 * HUGE - 1)
        self.assertEqual(far_closing(pattern, (("weight", HUGE), None), 2), 3 * HUGE + 2)
        self.assertEqual(far_closing(pattern, (None, ("weight", HUGE)), 0), 3 * HUGE - 2)
        self.assertEqual(far_closing(pattern, (("age", HUGE), None), 0), 3 * HUGE + 1)
        self.assertEqual(far_closing(pattern, (("age", HUGE), None), 1), 3 * HUGE + 1)
        self.assertEqual(far_closing(pattern, (("age", HUGE), None), 2), 3 * HUGE + 1)
        self.assertEqual(far_closing(pattern, (("age", HUGE), None), HUGE), 4 * HUGE)
        self.assertEqual(far_closing(pattern, (("all", [("age", HUGE), ("marks", 1)]), None), 0), 3 * HUGE + 1)
        self.assertEqual(far_closing(pattern, (("any", [("age", HUGE), ("marks", 1)]), None), 0), 3)

    def test_rules_that_never_close(self):
        plain = [(0, 0, "a", False), (0, 0, "b", False)]
        for limit in [("weight", 1), ("age", 1), ("marks", 1), ("kinds", 3), ("kinds", 40)]:
            for rule in [
                (limit, None), (None, limit), (limit, limit), (("all", [("items", 1), limit]), None),
                (None, ("all", [limit, ("items", 2)])), (("any", [limit, limit]), ("any", [limit, ("weight", 5)])),
            ]:
                self.assertIsNone(far_closing(plain, rule, 1))
                self.assertIsNone(nth_closing(plain, rule, 1, 1))
                self.assertEqual(count_closings(plain, rule, 1, HUGE), 0)
                self.assertIsNone(round_of(plain, rule, 1))
                self.assertIsNone(far_meeting(plain, rule, 1, 2))
                self.assertEqual(far_meeting(plain, rule, 1, 1), 1)
            self.assertEqual(far_closing(plain, (("any", [limit, ("items", 7)]), None), 1), 8)
            self.assertEqual(far_closing(plain, (limit, ("items", 7)), 1), 7)
            self.assertEqual(far_closing(plain, (("items", 7), limit), 1), 8)
        self.assertIsNone(far_closing(PATTERN, NEVER, 0))

    def test_there_is_always_a_next_item(self):
        # A single item that reaches the cap is closed.
        self.assertEqual(far_closing([(0, 9, "a", False)], (None, ("weight", 9)), 0), 1)
        self.assertEqual(far_closing([(0, 9, "a", False)], (None, ("items", 1)), HUGE), HUGE + 1)
        self.assertEqual(far_closing([(0, 9, "a", False)], (None, ("weight", 10)), 0), 1)

    def test_patterns_of_one_and_of_twenty_items(self):
        self.assertEqual(far_closing(ones(1), (("weight", 7), None), 3), 10)
        self.assertEqual(far_closing(ones(20), (("weight", 7), None), 3), 10)
        kinds = [(0, 0, "abcdefghijklmnopqrst"[number], False) for number in range(20)]
        self.assertEqual(far_closing(kinds, (("kinds", 20), None), 3), 23)
        self.assertIsNone(far_closing(kinds, (("kinds", 21), None), 3))

    def test_against_the_definition(self):
        for pattern, rule in cases(154, 300):
            for start in range(2 * len(pattern)):
                expected = next_far_slowly(pattern, rule, start)
                self.assertEqual(far_closing(pattern, rule, start), expected, (pattern, rule, start))
                shift = HUGE // len(pattern) * len(pattern) - 2 * len(pattern)
                shifted = None if expected is None else expected + shift
                self.assertEqual(far_closing(pattern, rule, start + shift), shifted)

    def test_closings_of_patterns_written_out(self):
        for pattern, rule in cases(155, 150):
            traffic = repeated(pattern, 40 // len(pattern))
            found = closings(traffic, rule)
            expected = row_slowly(pattern, rule, 0, 40)[1:]
            # At the end no next item comes, so a last closing by the cap is missing there.
            self.assertEqual(expected[:len(found)], found)
            missing = [gap for gap in expected[len(found):] if gap < len(traffic)]
            self.assertEqual(missing, [])
            numbers = range(1, len(found) + 1)
            self.assertEqual([nth_closing(pattern, rule, 0, number) for number in numbers], found)
            ends = range(len(traffic))
            self.assertEqual([count_closings(pattern, rule, 0, end) for end in ends],
                             [len([gap for gap in found if gap <= end]) for end in ends])


class NumberedTest(unittest.TestCase):
    def test_numbers(self):
        self.assertEqual(nth_closing(PATTERN, FIVE, 1, HUGE), 3 * HUGE + 1)
        self.assertEqual(count_closings(PATTERN, FIVE, 0, HUGE), HUGE // 3)
        self.assertEqual(nth_closing(PATTERN, FIVE, HUGE, HUGE), 4 * HUGE)
        self.assertEqual(count_closings(PATTERN, FIVE, HUGE, HUGE), 0)
        self.assertEqual(count_closings(ones(1), (("items", 1), None), 0, HUGE), HUGE)
        self.assertEqual(count_closings(ones(20), (("items", 1), None), 3, HUGE), HUGE - 3)
        self.assertEqual(nth_closing(ones(20), (None, ("items", 1)), 3, HUGE), HUGE + 3)
        self.assertIsNone(nth_closing(PATTERN, NEVER, 0, 1))
        self.assertEqual(count_closings(PATTERN, NEVER, 0, HUGE), 0)

    def test_step_by_step(self):
        for pattern, rule in cases(156, 150):
            for start in range(len(pattern)):
                row = row_slowly(pattern, rule, start, 30)
                for number in range(1, 31):
                    expected = row[number] if number < len(row) else None
                    self.assertEqual(nth_closing(pattern, rule, start, number), expected, (pattern, rule, start))
                for end in range(start, row[-1] if len(row) > 1 else start + 5):
                    counted = len([gap for gap in row[1:] if gap <= end])
                    self.assertEqual(count_closings(pattern, rule, start, end), counted, (pattern, rule, start, end))

    def test_far_numbers_and_gaps_fit_together(self):
        numbers = source(157)
        for pattern, rule in cases(158, 100):
            start = numbers.randrange(HUGE // 2)
            number = numbers.randrange(1, HUGE // 1000)
            gap = nth_closing(pattern, rule, start, number)
            if gap is None:
                continue
            self.assertLess(gap, HUGE)
            self.assertEqual(count_closings(pattern, rule, start, gap), number)
            self.assertEqual(count_closings(pattern, rule, start, gap - 1), number - 1)
            self.assertEqual(nth_closing(pattern, rule, start, number + 1), far_closing(pattern, rule, gap))
            self.assertEqual(far_meeting(pattern, rule, start, gap), gap)

    def test_wrong_numbers_and_ends(self):
        for value in [value for value in odd_values() if value.__class__ is not int] + [0, -1, -HUGE, HUGE + 1]:
            for rule in (FIVE, NEVER):
                with self.assertRaises(InvalidNumber):
                    nth_closing(PATTERN, rule, 0, value)
        for value in NO_FAR_GAPS + [0, 4]:
            for rule in (FIVE, NEVER):
                with self.assertRaises(InvalidGap):
                    count_closings(PATTERN, rule, 5, value)
        self.assertEqual(count_closings(PATTERN, FIVE, 5, 5), 0)


class RoundTest(unittest.TestCase):
    def test_rounds(self):
        pattern, rule = weights(4, 1, 1), FIVE
        self.assertEqual([round_of(pattern, rule, start) for start in (0, 1, 2)], [(2, 1, 1), (0, 1, 1), (1, 1, 1)])
        self.assertEqual(round_of(pattern, rule, HUGE), round_of(pattern, rule, HUGE % 3))
        self.assertEqual(round_of(ones(20), (("items", 1), None), 7), (0, 20, 1))
        self.assertEqual(round_of(ones(20), (("items", 40), None), 7), (0, 1, 2))
        self.assertEqual(round_of(ones(20), (("items", 39), None), 7), (0, 20, 39))
        self.assertEqual(round_of(ones(1), (("weight", HUGE), None), 7), (0, 1, HUGE))
        self.assertIsNone(round_of(PATTERN, NEVER, 0))

    def test_step_by_step(self):
        for pattern, rule in cases(159, 300):
            found = set()
            for start in range(len(pattern)):
                row = row_slowly(pattern, rule, start, 3 * len(pattern))
                if len(row) == 1:
                    self.assertIsNone(round_of(pattern, rule, start))
                    continue
                places = [gap % len(pattern) for gap in row]
                first = min(number for number, place in enumerate(places) if place in places[number + 1:])
                again = places.index(places[first], first + 1)
                repetitions = (row[again] - row[first]) // len(pattern)
                self.assertEqual(round_of(pattern, rule, start), (first, again - first, repetitions))
                found.add((again - first, repetitions))
            self.assertLessEqual(len(found), 1, (pattern, rule))


class FarMeetingTest(unittest.TestCase):
    def test_meetings(self):
        self.assertIsNone(far_meeting(PATTERN, FIVE, 0, 1))
        self.assertEqual(far_meeting(PATTERN, FIVE, 1, HUGE), HUGE)
        self.assertEqual(far_meeting(PATTERN, FIVE, 2, 5), 5)
        self.assertEqual(far_meeting(PATTERN, FIVE, HUGE, 1), HUGE)
        self.assertIsNone(far_meeting(PATTERN, FIVE, HUGE, 0))
        self.assertEqual(far_meeting(PATTERN, FIVE, HUGE, HUGE), HUGE)
        self.assertEqual(far_meeting(PATTERN, NEVER, HUGE, HUGE), HUGE)
        self.assertIsNone(far_meeting(PATTERN, NEVER, 0, HUGE))
        self.assertIsNone(far_meeting(ones(20), (("items", 39), None), 0, HUGE))
        self.assertEqual(far_meeting(ones(20), (("items", 1), None), 0, HUGE), HUGE)
        # The meeting may be greater than the greatest far gap.
        self.assertEqual(far_meeting(weights(4, 1, 1), FIVE, HUGE - 1, HUGE), HUGE + 3)

    def test_step_by_step(self):
        for pattern, rule in cases(160, 200):
            many = len(pattern)
            rows = [row_slowly(pattern, rule, start, 6 * many + 6) for start in range(3 * many)]
            for first in rows:
                for second in rows:
                    common = min(set(first) & set(second), default=None)
                    found = far_meeting(pattern, rule, first[0], second[0])
                    self.assertEqual(found, common, (pattern, rule, first[0], second[0]))

    def test_far_apart(self):
        numbers = source(161)
        for pattern, rule in cases(162, 200):
            first, second = numbers.randrange(50), numbers.randrange(HUGE // 2, HUGE)
            number = count_closings(pattern, rule, first, second)
            near = nth_closing(pattern, rule, first, number) if number else first
            found = far_meeting(pattern, rule, first, second)
            self.assertEqual(far_meeting(pattern, rule, second, first), found)
            self.assertEqual(far_meeting(pattern, rule, near, second), found)
            if number:
                # The next row of the pattern is the same one, further on.
                rows = [row_slowly(pattern, rule, start, 60) for start in (near, second)]
                self.assertEqual(found, min(set(rows[0]) & set(rows[1]), default=None))

    def test_meetings_of_patterns_written_out(self):
        for pattern, rule in cases(163, 100, 3):
            traffic = repeated(pattern, 40 // len(pattern))
            for first in range(10):
                for second in range(10):
                    expected = meeting(traffic, rule, first, second)
                    if expected is not None:
                        self.assertEqual(far_meeting(pattern, rule, first, second), expected)

    def test_rows_behind_a_meeting_are_equal(self):
        for pattern, rule in cases(164, 60):
            starts = (0, HUGE // 100)
            found = far_meeting(pattern, rule, *starts)
            if found is not None:
                counts = [count_closings(pattern, rule, start, found) for start in starts]
                for number in range(1, 20):
                    rows = [nth_closing(pattern, rule, start, count + number) for start, count in zip(starts, counts)]
                    self.assertEqual(rows[0], rows[1])


class WrongValuesTest(unittest.TestCase):
    def test_patterns(self):
        for at, value in enumerate(wrong_traffics() + [[], ones(21), ones(40), tuple(PATTERN)]):
            with self.subTest(at=at):
                for call in [
                    lambda: far_measures(value, 0, 1), lambda: far_closing(value, FIVE, 0),
                    lambda: nth_closing(value, FIVE, 0, 1), lambda: count_closings(value, FIVE, 0, 1),
                    lambda: round_of(value, FIVE, 0), lambda: far_meeting(value, FIVE, 0, 1),
                ]:
                    with self.assertRaises(InvalidPattern):
                        call()

    def test_rules(self):
        for at, value in enumerate(wrong_rules()):
            with self.subTest(at=at), self.assertRaises(InvalidRule):
                far_closing(PATTERN, value, 0)

    def test_far_gaps(self):
        for at, value in enumerate(NO_FAR_GAPS):
            for rule in (FIVE, NEVER):
                for call in [
                    lambda: far_closing(PATTERN, rule, value), lambda: nth_closing(PATTERN, rule, value, 1),
                    lambda: count_closings(PATTERN, rule, value, HUGE), lambda: round_of(PATTERN, rule, value),
                    lambda: far_meeting(PATTERN, rule, value, 0), lambda: far_meeting(PATTERN, rule, 0, value),
                ]:
                    with self.subTest(at=at), self.assertRaises(InvalidGap):
                        call()

    def test_conditions_of_all_kinds(self):
        numbers = source(165)
        for _ in range(200):
            pattern, condition = random_pattern(numbers), random_condition(numbers, 6)
            for rule in ((condition, None), (None, condition)):
                self.assertEqual(far_closing(pattern, rule, 3), next_far_slowly(pattern, rule, 3))
