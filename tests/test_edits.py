"""Points 12 and 44 to 48: edits of a traffic and what they change about the closings."""

import copy
import unittest

from batchlimits.edits import added_closings, agree_from, edit_bounds, edited, is_edit, new_batches
from batchlimits.errors import InvalidEdit, TooLarge
from tests.slow import closings_slowly
from tests.test_closings import RULE, TRAFFIC
from tests.values import HUGE, long_traffic, odd_values, ones, random_item, random_rule, random_traffic, source

ITEM = (1, 2, "b", True)
SHORT = [(0, 2, "a", False), (3, 1, "b", True)]
RULES = [RULE, (None, ("weight", 4)), (("weight", 4), ("items", 3)), (None, None)]


def edits_of(traffic, numbers):
    """Return edits of all sorts at every place: greater, smaller and the same numbers."""
    found = [("insert", gap, random_item(numbers)) for gap in range(len(traffic) + 1)]
    for number, (pause, weight, _, _) in enumerate(traffic):
        found.append(("remove", number))
        found.extend(("pause", number, new) for new in {0, pause, pause + 1, pause + 4})
        found.extend(("weight", number, new) for new in {0, weight, weight + 1, weight + 4})
    return found


def edit_cases(seed, many, most=7):
    """Return tuples of a traffic, a rule and an edit."""
    numbers = source(seed)
    for _ in range(many):
        traffic, rule = random_traffic(numbers, most), random_rule(numbers)
        for edit in edits_of(traffic, numbers):
            yield traffic, rule, edit


def long_cases(seed, many):
    """Return tuples of a traffic of 39 items, a rule and an edit."""
    numbers = source(seed)
    for _ in range(many):
        traffic, rule = long_traffic(numbers)[1:], random_rule(numbers)
        for edit in numbers.sample(edits_of(traffic, numbers), 12):
            yield traffic, rule, edit


def edited_slowly(traffic, edit):
    """Return the traffic after an edit, item by item."""
    changed = []
    for number, item in enumerate(traffic):
        pause, weight, kind, marked = item
        if edit[0] == "insert" and edit[1] == number:
            changed.append(edit[2])
        if edit[0] == "pause" and edit[1] == number:
            pause = edit[2]
        if edit[0] == "weight" and edit[1] == number:
            weight = edit[2]
        if edit[:2] != ("remove", number):
            changed.append((pause, weight, kind, marked))
    return changed + ([edit[2]] if edit[:2] == ("insert", len(traffic)) else [])


def places_slowly(traffic, edit):
    """Return the pairs of an old and a new gap that mean the same place."""
    sort, at = edit[:2]
    pairs = []
    for old in range(len(traffic) + 1):
        if sort == "insert" and old >= at:
            pairs.append((old, old + 1))
        if sort == "remove" and old > at:
            pairs.append((old, old - 1))
        if sort == "pause" and old >= at or sort == "weight" and old > at:
            pairs.append((old, old))
    return pairs


def agree_slowly(traffic, rule, edit):
    """Return the least gaps that mean the same place and are in both rows, or the numbers of items."""
    changed = edited_slowly(traffic, edit)
    old, new = [0] + closings_slowly(traffic, rule), [0] + closings_slowly(changed, rule)
    both = [(first, second) for first, second in places_slowly(traffic, edit) if first in old and second in new]
    return min(both, default=(len(traffic), len(changed)))


def batches_slowly(traffic, rule):
    ends = closings_slowly(traffic, rule)
    return list(zip([0] + ends, ends))


def new_slowly(traffic, rule, edit):
    """Return the batches of the edited traffic that end up to the new gap, without old ones ahead of the edit."""
    last = agree_slowly(traffic, rule, edit)[1]
    batches = [batch for batch in batches_slowly(edited_slowly(traffic, edit), rule) if batch[1] <= last]
    old = batches_slowly(traffic, rule)
    return [batch for batch in batches if batch[1] > edit[1] or batch not in old]


def wrong_edits():
    """Return values of all kinds that are no edit of a traffic of eight items."""
    wrong = [value for value in odd_values() if value.__class__ is not int]
    found = list(odd_values())
    for number in wrong + [-1, 8, 9, HUGE]:
        found += [("remove", number), ("pause", number, 5), ("weight", number, 5)]
        if number != 8:
            found.append(("insert", number, ITEM))
    for value in wrong + [-1, HUGE + 1]:
        found += [("insert", 0, value), ("pause", 0, value), ("weight", 0, value)]
    found += [("insert", 0, 5), ("pause", 0, ITEM), ("weight", 0, ITEM), ("insert", 0, list(ITEM))]
    found += [("insert", 0, (0, 1)), ("insert", 0, ITEM[:3]), ("insert", 0, (True, *ITEM[1:]))]
    found += [("insert",), ("remove",), ("pause", 0), ("weight", 0), ("insert", 0), ("remove", 0, 5), ("remove", 0, 0)]
    found += [("insert", 0, ITEM, 0), ("pause", 0, 5, 0), ("weight", 0, 5, 0), ("remove", 0, None)]
    found += [["remove", 0], ["insert", 0, ITEM], ["pause", 0, 5], [("remove", 0)], (("remove", 0),)]
    found += [(word, 0, 5) for word in ("Pause", "weights", "kind", "marked", "items", "", "age", b"pause", None, 0)]
    found += [(word, 0) for word in ("insert", "remov", "Remove", b"remove", None, ["remove"], {"remove": 0}, ("a",))]
    return found + [({}, 0, 5), ({"pause"}, 0, 5), (0, "remove"), {"remove": 0}, "remove 0", ("remove", "0")]


class IsEditTest(unittest.TestCase):
    def test_edits(self):
        traffic = [(0, 2, "a", False)]
        values = [("remove", 0), ("remove", 1), ("pause", 0, 5), ("insert", 1, (0, 1))]
        self.assertEqual([is_edit(traffic, value) for value in values], [True, False, True, False])
        for edit in [
            ("insert", 0, ITEM), ("insert", 8, ITEM), ("remove", 0), ("remove", 7),
            ("pause", 0, 0), ("pause", 7, HUGE), ("weight", 0, HUGE), ("weight", 7, 0),
            # The pause and the weight that the item has.
            ("pause", 2, 0), ("weight", 2, 3),
        ]:
            self.assertIs(is_edit(TRAFFIC, edit), True, edit)

    def test_edges(self):
        self.assertIs(is_edit([], ("insert", 0, ITEM)), True)
        self.assertIs(is_edit([], ("insert", 1, ITEM)), False)
        for edit in [("remove", 0), ("pause", 0, 0), ("weight", 0, 0)]:
            self.assertIs(is_edit([], edit), False)
        for edit in [("insert", 0, ITEM), ("insert", 40, ITEM), ("remove", 39), ("pause", 39, 1), ("weight", 39, 1)]:
            self.assertIs(is_edit(ones(40), edit), True)
        for edit in [("insert", 41, ITEM), ("remove", 40), ("pause", 40, 1), ("weight", 40, 1)]:
            self.assertIs(is_edit(ones(40), edit), False)

    def test_any_value_that_is_no_edit(self):
        for at, value in enumerate(wrong_edits()):
            with self.subTest(at=at):
                self.assertIs(is_edit(TRAFFIC, value), False)
                self.assertIs(is_edit([], value), False)


class EditedTest(unittest.TestCase):
    def test_each_sort(self):
        self.assertEqual(
            edited(SHORT, ("insert", 1, (5, 7, "c", False))),
            [(0, 2, "a", False), (5, 7, "c", False), (3, 1, "b", True)],
        )
        self.assertEqual(edited(SHORT, ("insert", 0, ITEM)), [ITEM, *SHORT])
        self.assertEqual(edited(SHORT, ("insert", 2, ITEM)), [*SHORT, ITEM])
        self.assertEqual(edited(SHORT, ("remove", 0)), SHORT[1:])
        self.assertEqual(edited(SHORT, ("remove", 1)), SHORT[:1])
        self.assertEqual(edited(SHORT, ("pause", 1, 9)), [(0, 2, "a", False), (9, 1, "b", True)])
        self.assertEqual(edited(SHORT, ("weight", 1, 9)), [(0, 2, "a", False), (3, 9, "b", True)])
        self.assertEqual(edited(SHORT, ("weight", 0, 0)), [(0, 0, "a", False), (3, 1, "b", True)])
        self.assertEqual(edited(SHORT, ("pause", 0, 0)), SHORT)

    def test_edges(self):
        self.assertEqual(edited([], ("insert", 0, ITEM)), [ITEM])
        self.assertEqual(edited([ITEM], ("remove", 0)), [])
        self.assertEqual(edited(ones(39), ("insert", 39, ITEM)), [*ones(39), ITEM])
        self.assertEqual(edited(ones(40), ("remove", 39)), ones(39))
        self.assertEqual(edited(ones(40), ("pause", 39, HUGE))[-1], (HUGE, 1, "a", False))

    def test_against_the_definition(self):
        for traffic, _, edit in edit_cases(81, 60):
            kept = copy.deepcopy((traffic, edit))
            self.assertEqual(edited(traffic, edit), edited_slowly(traffic, edit))
            self.assertEqual((traffic, edit), kept)

    def test_a_new_list_even_if_nothing_changes(self):
        changed = edited(SHORT, ("pause", 0, 0))
        changed.append(None)
        self.assertEqual(len(SHORT), 2)

    def test_edits_can_be_reverted(self):
        for traffic, _, edit in edit_cases(82, 60):
            changed = edited(traffic, edit)
            if edit[0] == "insert":
                back = ("remove", edit[1])
            elif edit[0] == "remove":
                back = ("insert", edit[1], traffic[edit[1]])
            else:
                back = (edit[0], edit[1], traffic[edit[1]][0 if edit[0] == "pause" else 1])
            self.assertEqual(edited(changed, back), traffic)


class ErrorsTest(unittest.TestCase):
    def test_wrong_edits(self):
        for at, value in enumerate(wrong_edits()):
            with self.subTest(at=at):
                with self.assertRaises(InvalidEdit):
                    edited(TRAFFIC, value)
                for function in (added_closings, edit_bounds, agree_from, new_batches):
                    with self.assertRaises(InvalidEdit):
                        function(TRAFFIC, RULE, value)

    def test_an_insert_into_forty_items(self):
        for gap in (0, 20, 40):
            edit = ("insert", gap, ITEM)
            with self.assertRaises(TooLarge) as caught:
                edited(ones(40), edit)
            self.assertEqual(vars(caught.exception), {"limit": 40})
            for function in (added_closings, edit_bounds, agree_from, new_batches):
                with self.assertRaises(TooLarge) as caught:
                    function(ones(40), RULE, edit)
                self.assertEqual(caught.exception.limit, 40)

    def test_a_wrong_edit_of_forty_items_is_no_edit_first(self):
        for edit in [("insert", 41, ITEM), ("insert", 0, None), ("insert", True, ITEM)]:
            with self.assertRaises(InvalidEdit):
                edited(ones(40), edit)
            for function in (added_closings, edit_bounds, agree_from, new_batches):
                with self.assertRaises(InvalidEdit):
                    function(ones(40), RULE, edit)


class AddedTest(unittest.TestCase):
    def test_numbers(self):
        found = [added_closings(TRAFFIC, RULE, ("insert", 3, (0, weight, "a", False))) for weight in (4, 0)]
        self.assertEqual(found, [1, 0])
        self.assertEqual(added_closings([], (("items", 1), None), ("insert", 0, ITEM)), 1)
        self.assertEqual(added_closings([ITEM], (("items", 1), None), ("remove", 0)), -1)
        self.assertEqual(added_closings(ones(40), (("items", 40), None), ("remove", 7)), -1)
        self.assertEqual(added_closings(ones(39), (("items", 40), None), ("insert", 7, ITEM)), 1)

    def test_against_the_definition(self):
        for cases in (edit_cases(83, 80), long_cases(84, 15)):
            for traffic, rule, edit in cases:
                before, after = closings_slowly(traffic, rule), closings_slowly(edited_slowly(traffic, edit), rule)
                self.assertEqual(added_closings(traffic, rule, edit), len(after) - len(before))


class BoundsTest(unittest.TestCase):
    def test_the_whole_table(self):
        traffic = [(2, 5, "a", False), (2, 5, "a", False)]
        for rule, most in [((("weight", 4), None), 1), ((None, None), 1), ((None, ("age", 9)), 2), (RULES[2], 2)]:
            for edit, expected in [
                (("insert", 1, ITEM), (0, most)), (("insert", 0, (0, 0, "a", False)), (0, most)),
                (("insert", 2, ITEM), (0, most)), (("weight", 1, 6), (0, most)), (("weight", 0, HUGE), (0, most)),
                (("pause", 1, 3), (0, 1)), (("pause", 0, HUGE), (0, 1)),
                (("remove", 0), (-most, 0)), (("remove", 1), (-most, 0)), (("weight", 0, 4), (-most, 0)),
                (("weight", 1, 0), (-most, 0)), (("pause", 1, 1), (-1, 0)), (("pause", 0, 0), (-1, 0)),
                (("pause", 0, 2), (0, 0)), (("pause", 1, 2), (0, 0)), (("weight", 1, 5), (0, 0)),
            ]:
                with self.subTest(rule=rule, edit=edit):
                    self.assertEqual(edit_bounds(traffic, rule, edit), expected)

    def test_an_example(self):
        traffic, rule = [(0, 5, "a", False), (0, 5, "a", False)], (None, ("weight", 11))
        edit = ("insert", 1, (0, 10, "a", False))
        self.assertEqual([edit_bounds(traffic, rule, edit), added_closings(traffic, rule, edit)], [(0, 2), 2])

    def test_all_numbers_lie_between_and_each_bound_is_reached(self):
        reached = {}
        for traffic, rule, edit in edit_cases(85, 500):
            least, greatest = edit_bounds(traffic, rule, edit)
            added = added_closings(traffic, rule, edit)
            self.assertTrue(least <= added <= greatest, (traffic, rule, edit))
            reached.setdefault((edit[0], rule[1] is None, least, greatest), set()).add(added)
        for (sort, _, least, greatest), added in reached.items():
            self.assertEqual(added, set(range(least, greatest + 1)), (sort, least, greatest))
        # Six sorts of edits without a cap and with one, and the same pause and weight.
        self.assertEqual(len(reached), 16)

    def test_forty_items(self):
        self.assertEqual(edit_bounds(ones(40), RULE, ("remove", 39)), (-1, 0))
        self.assertEqual(edit_bounds(ones(39), RULES[1], ("insert", 39, ITEM)), (0, 2))


class AgreeTest(unittest.TestCase):
    def test_gaps(self):
        found = [agree_from(TRAFFIC, RULE, ("insert", 2, (0, weight, "a", False))) for weight in (0, 1)]
        self.assertEqual(found, [(3, 4), (6, 7)])

    def test_edges(self):
        self.assertEqual(agree_from([], RULE, ("insert", 0, ITEM)), (0, 1))
        self.assertEqual(agree_from([ITEM], RULE, ("remove", 0)), (1, 0))
        # With its first item gone the row begins at the place that was gap 1.
        self.assertEqual(agree_from(ones(3), (("items", 1), None), ("remove", 0)), (1, 0))
        self.assertEqual(agree_from(ones(3), (("items", 1), None), ("insert", 0, ITEM)), (0, 1))
        self.assertEqual(agree_from(ones(3), (("items", 1), None), ("insert", 3, ITEM)), (3, 4))
        self.assertEqual(agree_from(ones(3), (None, None), ("insert", 1, ITEM)), (3, 4))
        self.assertEqual(agree_from(ones(3), (None, None), ("remove", 1)), (3, 2))
        self.assertEqual(agree_from(ones(3), (None, None), ("weight", 0, 5)), (3, 3))
        self.assertEqual(agree_from(ones(40), (("items", 40), None), ("weight", 0, 5)), (40, 40))

    def test_the_pause_of_the_first_item_of_a_batch_does_not_count(self):
        rule = (("items", 2), ("age", 5))
        self.assertEqual(agree_from(ones(6), rule, ("pause", 0, 9)), (0, 0))
        self.assertEqual(agree_from(ones(6), rule, ("pause", 2, 9)), (2, 2))
        self.assertEqual(agree_from(ones(6), rule, ("pause", 3, 9)), (6, 6))
        self.assertEqual(agree_from(ones(6), rule, ("weight", 0, 9)), (2, 2))
        self.assertEqual(agree_from(ones(6), rule, ("weight", 2, 9)), (4, 4))

    def test_against_the_definition(self):
        for cases in (edit_cases(86, 150), long_cases(87, 15)):
            for traffic, rule, edit in cases:
                expected = agree_slowly(traffic, rule, edit)
                self.assertEqual(agree_from(traffic, rule, edit), expected, (traffic, rule, edit))

    def test_from_there_on_the_rows_are_the_same(self):
        for traffic, rule, edit in edit_cases(88, 100):
            old, new = agree_from(traffic, rule, edit)
            before = [gap - old for gap in closings_slowly(traffic, rule) if gap > old]
            after = [gap - new for gap in closings_slowly(edited(traffic, edit), rule) if gap > new]
            self.assertEqual(before, after, (traffic, rule, edit))


class NewBatchesTest(unittest.TestCase):
    def test_batches(self):
        edits = [("insert", 2, (0, 1, "a", False)), ("insert", 3, (0, 4, "a", False)), ("weight", 7, 0)]
        found = [new_batches(TRAFFIC, RULE, edit) for edit in edits]
        self.assertEqual(found, [[(0, 3), (3, 5), (5, 7)], [(3, 4)], []])

    def test_edges(self):
        one = (("items", 1), None)
        self.assertEqual(new_batches([], one, ("insert", 0, ITEM)), [(0, 1)])
        self.assertEqual(new_batches([], (None, None), ("insert", 0, ITEM)), [])
        self.assertEqual(new_batches([ITEM], one, ("remove", 0)), [])
        self.assertEqual(new_batches(ones(3), one, ("insert", 3, ITEM)), [(3, 4)])
        self.assertEqual(new_batches(ones(3), one, ("insert", 0, ITEM)), [(0, 1)])
        self.assertEqual(new_batches(ones(3), one, ("weight", 2, 5)), [(2, 3)])
        self.assertEqual(new_batches(ones(3), one, ("pause", 2, 5)), [])
        self.assertEqual(new_batches(ones(40), (("items", 2), None), ("remove", 0))[-1], (36, 38))

    def test_against_the_definition(self):
        for cases in (edit_cases(89, 150), long_cases(90, 15)):
            for traffic, rule, edit in cases:
                expected = new_slowly(traffic, rule, edit)
                self.assertEqual(new_batches(traffic, rule, edit), expected, (traffic, rule, edit))

    def test_all_other_batches_are_old_ones(self):
        for traffic, rule, edit in edit_cases(91, 100):
            changed = edited(traffic, edit)
            old = batches_slowly(traffic, rule)
            moved = {new: gap for gap, new in places_slowly(traffic, edit)}
            found = new_batches(traffic, rule, edit)
            for start, end in batches_slowly(changed, rule):
                if (start, end) not in found and end > edit[1]:
                    self.assertIn((moved[start], moved[end]), old, (traffic, rule, edit))
                elif (start, end) not in found:
                    self.assertIn((start, end), old)

    def test_the_same_pause_or_weight(self):
        for traffic, rule, edit in edit_cases(92, 60):
            if edited(traffic, edit) == traffic:
                self.assertEqual(added_closings(traffic, rule, edit), 0)
                self.assertEqual([batch for batch in new_batches(traffic, rule, edit)
                                  if batch not in batches_slowly(traffic, rule)], [])
