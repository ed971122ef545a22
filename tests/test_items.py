"""Points 5, 6, 14, 15 and 16: items, traffic, stretches and their measures, repeating."""

import copy
import itertools
import unittest

from batchlimits.errors import InvalidNumber, InvalidStretch, InvalidTraffic, TooLarge
from batchlimits.items import is_item, is_traffic, measures_of, repeated, times_of
from tests.slow import measured_slowly
from tests.values import HUGE, Plain, nested_lists, nested_tuples, odd_values, ones, random_traffic, source

ITEM = (4, 2, "a", False)
TRAFFIC = [(4, 2, "a", False), (5, 1, "b", True), (1, 3, "a", False)]


def with_part(at, value):
    """Return the item with another part."""
    return ITEM[:at] + (value,) + ITEM[at + 1:]


def wrong_traffics():
    """Return values of all kinds that are no traffic."""
    odd = [value for value in odd_values() if value != []]
    return odd + [
        tuple(TRAFFIC), (), [list(ITEM)], [ITEM, None], [None, ITEM], [ITEM[:3]], [ITEM + (1,)], [[ITEM]], ITEM,
        {0: ITEM}, {ITEM}, ones(41), ones(400), ones(39) + [(0, 1, "a", 0)],
        [with_part(0, True)], [with_part(1, HUGE + 1)], [with_part(2, "A")], [with_part(3, 1)],
    ]


def judged_slowly(value):
    """Return whether a tuple of four values is an item, part by part as the definition says."""
    pause, weight, kind, marked = value
    for number in (pause, weight):
        if not isinstance(number, int) or isinstance(number, bool) or number < 0 or number > HUGE:
            return False
    if not isinstance(kind, str) or len(kind) not in range(1, 9):
        return False
    return set(kind) <= set("abcdefghijklmnopqrstuvwxyz") and isinstance(marked, bool)


class IsItemTest(unittest.TestCase):
    def test_items(self):
        for at, values in [
            (0, [0, 1, HUGE - 1, HUGE]),
            (1, [0, 1, HUGE - 1, HUGE]),
            (2, ["a", "z", "abcdefgh", "zzzzzzzz", "az"]),
            (3, [True, False]),
        ]:
            for value in values:
                with self.subTest(at=at, value=value):
                    self.assertIs(is_item(with_part(at, value)), True)

    def test_wrong_parts(self):
        never = [None, 1.0, b"a", [], ["a"], (), ("a",), {}, set(), Plain(), nested_lists(99), nested_tuples(99)]
        for at, values in [
            (0, [-1, -HUGE, HUGE + 1, HUGE * 10, True, False, "1", "a"]),
            (1, [-1, -HUGE, HUGE + 1, HUGE * 10, True, False, "1", "a"]),
            (2, ["", "abcdefghi", "A", "aB", "a1", "1", "a b", " a", "a ", "a\n", "_", "`", "{", 0, 1, True, "\u00e9"]),
            (3, [0, 1, 2, "", "True", "a"]),
        ]:
            for value in values + never:
                with self.subTest(at=at, value=value):
                    self.assertIs(is_item(with_part(at, value)), False)

    def test_letters_of_other_alphabets(self):
        for letter in "\u00e9\u00df\u00aa\u0430\u03b1\uff41\u0131\u0301\u00b2\U0001d41a":
            for kind in [letter, "a" + letter, letter + "a", letter * 8]:
                with self.subTest(kind=kind):
                    self.assertIs(is_item(with_part(2, kind)), False)

    def test_every_single_sign_as_a_kind(self):
        found = [chr(code) for code in range(0x3000) if is_item(with_part(2, chr(code)))]
        self.assertEqual("".join(found), "abcdefghijklmnopqrstuvwxyz")

    def test_all_choices_of_parts(self):
        numbers = [0, 7, HUGE, HUGE + 1, -1, True, False, 2.0, None, "1", []]
        kinds = ["a", "abcdefgh", "abcdefghi", "", "aB", "a b", "a1", b"a", None, ["a"], {}]
        for value in itertools.product(numbers, numbers, kinds, [True, False, 0, 1, None, []]):
            expected = judged_slowly(value)
            self.assertIs(is_item(value), expected, value)
            self.assertIs(is_traffic([ITEM, value]), expected, value)

    def test_wrong_forms(self):
        forms = [list(ITEM), ITEM[:3], ITEM + (1,), (ITEM,), [ITEM], dict(enumerate(ITEM))]
        for at, value in enumerate(odd_values() + forms):
            with self.subTest(at=at):
                self.assertIs(is_item(value), False)


class IsTrafficTest(unittest.TestCase):
    def test_traffic(self):
        for value in [[], [ITEM], TRAFFIC, ones(39), ones(40), [ITEM] * 40, [with_part(1, HUGE)] * 40]:
            with self.subTest(value=value):
                self.assertIs(is_traffic(value), True)

    def test_no_traffic(self):
        for at, value in enumerate(wrong_traffics()):
            with self.subTest(at=at):
                self.assertIs(is_traffic(value), False)


    def test_one_wrong_item_at_every_place(self):
        for at in range(40):
            for value in [None, list(ITEM), with_part(0, True), with_part(1, -1), with_part(2, []), with_part(3, 0)]:
                traffic = ones(40)
                traffic[at] = value
                self.assertIs(is_traffic(traffic), False)

    def test_traffic_that_was_changed_in_place_is_judged_anew(self):
        traffic = ones(3)
        self.assertIs(is_traffic(traffic), True)
        traffic[1] = None
        self.assertIs(is_traffic(traffic), False)
        traffic[1] = ITEM
        self.assertIs(is_traffic(traffic), True)
        self.assertEqual(measures_of(traffic, 0, 3), (3, 4, 4, 1, 0))


class TimesTest(unittest.TestCase):
    def test_sums_of_the_pauses(self):
        self.assertEqual(times_of([]), [])
        self.assertEqual(times_of([ITEM]), [4])
        self.assertEqual(times_of(TRAFFIC), [4, 9, 10])
        self.assertEqual(times_of(ones(3)), [0, 0, 0])
        self.assertEqual(times_of([(HUGE, 0, "a", False)] * 40)[-1], 40 * HUGE)

    def test_last_time_by_a_sum_of_its_own(self):
        numbers = source(1)
        for _ in range(200):
            traffic = random_traffic(numbers)
            times = times_of(traffic)
            self.assertEqual(times, [sum(item[0] for item in traffic[:k + 1]) for k in range(len(traffic))])

    def test_wrong_traffic(self):
        for at, value in enumerate(wrong_traffics()):
            with self.subTest(at=at), self.assertRaises(InvalidTraffic):
                times_of(value)

    def test_a_new_list_and_an_unchanged_argument(self):
        traffic = list(TRAFFIC)
        times_of(traffic).append(1)
        self.assertEqual(times_of(traffic), [4, 9, 10])
        self.assertEqual(traffic, TRAFFIC)


class MeasuresTest(unittest.TestCase):
    def test_stretches(self):
        for start, end, measures in [
            (0, 1, (1, 2, 0, 1, 0)), (0, 2, (2, 3, 5, 2, 1)), (0, 3, (3, 6, 6, 2, 1)),
            (1, 2, (1, 1, 0, 1, 1)), (1, 3, (2, 4, 1, 2, 1)), (2, 3, (1, 3, 0, 1, 0)),
        ]:
            with self.subTest(start=start, end=end):
                self.assertEqual(measures_of(TRAFFIC, start, end), measures)

    def test_a_tuple_of_integers(self):
        measures = measures_of(TRAFFIC, 0, 3)
        self.assertEqual([part.__class__ for part in (measures, *measures)], [tuple] + [int] * 5)

    def test_the_longest_and_greatest(self):
        item = (HUGE, HUGE, "abcdefgh", True)
        self.assertEqual(measures_of([item] * 40, 0, 40), (40, 40 * HUGE, 39 * HUGE, 1, 40))
        kinds = [(0, 0, letter * 8, False) for letter in "abcdefghijklmnopqrstuvwxyz"]
        self.assertEqual(measures_of(kinds, 0, 26), (26, 0, 0, 26, 0))

    def test_random_stretches(self):
        numbers = source(2)
        for _ in range(200):
            traffic = random_traffic(numbers)
            for end in range(1, len(traffic) + 1):
                for start in range(end):
                    self.assertEqual(measures_of(traffic, start, end), measured_slowly(traffic, start, end))

    def test_wrong_traffic(self):
        for at, value in enumerate(wrong_traffics()):
            with self.subTest(at=at), self.assertRaises(InvalidTraffic):
                measures_of(value, 0, 1)

    def test_wrong_stretch(self):
        for start, end in [
            (0, 0), (1, 1), (3, 3), (2, 1), (3, 0), (3, 2), (-1, 1), (-3, -1), (0, 4), (3, 4), (4, 5), (0, -1),
            (0, HUGE), (0, True), (False, 1), (False, True), (True, 2), (0, 1.0), (0.0, 1), ("0", 1), (0, "1"),
        ]:
            with self.subTest(start=start, end=end), self.assertRaises(InvalidStretch):
                measures_of(TRAFFIC, start, end)
        with self.assertRaises(InvalidStretch):
            measures_of([], 0, 0)
        with self.assertRaises(InvalidStretch):
            measures_of([], 0, 1)

    def test_any_value_as_a_gap(self):
        for at, value in enumerate(odd_values()):
            if value.__class__ is not int:
                with self.subTest(at=at):
                    with self.assertRaises(InvalidStretch):
                        measures_of(TRAFFIC, value, 2)
                    with self.assertRaises(InvalidStretch):
                        measures_of(TRAFFIC, 0, value)

    def test_traffic_is_checked_first(self):
        for start, end in [(1, 0), (None, None), (0, 42), ([], {})]:
            with self.subTest(start=start, end=end), self.assertRaises(InvalidTraffic):
                measures_of(tuple(TRAFFIC), start, end)

    def test_argument_is_unchanged(self):
        traffic = list(TRAFFIC)
        measures_of(traffic, 0, 3)
        self.assertEqual(traffic, TRAFFIC)


class RepeatedTest(unittest.TestCase):
    def test_repeating(self):
        self.assertEqual(repeated(TRAFFIC, 0), [])
        self.assertEqual(repeated(TRAFFIC, 1), TRAFFIC)
        self.assertEqual(repeated(TRAFFIC, 2), TRAFFIC + TRAFFIC)
        self.assertEqual(repeated(TRAFFIC[:2], 2), [TRAFFIC[0], TRAFFIC[1], TRAFFIC[0], TRAFFIC[1]])

    def test_up_to_forty_items(self):
        for many, times in [(1, 40), (2, 20), (20, 2), (40, 1), (13, 3), (40, 0)]:
            with self.subTest(many=many, times=times):
                self.assertEqual(repeated(ones(many), times), ones(many * times))

    def test_more_than_forty_items(self):
        for many, times in [(1, 41), (2, 21), (21, 2), (40, 2), (14, 3), (1, HUGE), (40, HUGE), (1, HUGE ** 3)]:
            with self.subTest(many=many, times=times):
                with self.assertRaises(TooLarge) as caught:
                    repeated(ones(many), times)
                self.assertEqual(caught.exception.limit, 40)

    def test_empty_traffic_any_number_of_times(self):
        for times in [0, 1, 40, 41, 2 ** 31, 2 ** 63, 2 ** 64, HUGE, HUGE ** 3]:
            with self.subTest(times=times):
                self.assertEqual(repeated([], times), [])

    def test_wrong_traffic(self):
        for at, value in enumerate(wrong_traffics()):
            with self.subTest(at=at), self.assertRaises(InvalidTraffic):
                repeated(value, 1)

    def test_wrong_number(self):
        for traffic in [[], TRAFFIC, ones(40)]:
            for times in [-1, -HUGE, True, False, 1.0, "1"]:
                with self.subTest(times=times), self.assertRaises(InvalidNumber):
                    repeated(traffic, times)

    def test_any_value_as_the_number(self):
        for at, value in enumerate(odd_values()):
            if value.__class__ is not int:
                with self.subTest(at=at), self.assertRaises(InvalidNumber):
                    repeated(TRAFFIC, value)

    def test_traffic_is_checked_before_the_number(self):
        for times in [-1, None, True, HUGE, 41]:
            with self.subTest(times=times), self.assertRaises(InvalidTraffic):
                repeated(ones(41), times)

    def test_a_new_list_and_an_unchanged_argument(self):
        traffic = list(TRAFFIC)
        for times in [0, 1, 2]:
            first = repeated(traffic, times)
            self.assertIsNot(first, traffic)
            kept = copy.deepcopy(first)
            first.append(None)
            self.assertEqual(repeated(traffic, times), kept)
        self.assertEqual(traffic, TRAFFIC)
        empty = []
        self.assertIsNot(repeated(empty, 3), empty)
