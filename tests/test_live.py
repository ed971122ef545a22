"""Points 4 and 54 to 59: live batches."""

import copy
import unittest

from batchlimits.closings import closings
from batchlimits.errors import (
    InvalidGaps, InvalidItem, InvalidRule, InvalidTraffic, NothingToUndo, TooLarge,
)
from batchlimits.forced import closings_with
from batchlimits.live import Batcher
from tests.slow import choices, closings_slowly, measured_slowly
from tests.test_closings import RULE, TRAFFIC, random_cases
from tests.test_forced import short_cases, wrong_lists
from tests.test_items import wrong_traffics
from tests.test_rules import wrong_rules
from tests.values import HUGE, Equal, long_traffic, odd_values, ones, random_item, random_rule, source

ITEM = (1, 2, "b", True)
TWO = (("items", 2), None)
DEEP = (("any", [("all", [("items", 3), ("weight", 5)]), ("marks", 2)]), ("all", [("items", 2), ("age", 4)]))


def state_of(batcher):
    """Return all that can be seen of a batcher."""
    return (
        batcher.rule, batcher.traffic, batcher.closings, batcher.forced, batcher.rest, len(batcher),
    )


def undone(batcher):
    """Return the states of a batcher while everything is reverted, from the last one to the first one."""
    states = [state_of(batcher)]
    while True:
        try:
            batcher.undo()
        except NothingToUndo:
            return states
        states.append(state_of(batcher))


def filled(rule, traffic):
    batcher = Batcher(rule)
    for item in traffic:
        batcher.add(item)
    return batcher


class Model:
    """A slow reading of a batcher: its calls, from which all is found anew."""

    def __init__(self, rule):
        self.rule, self.calls = rule, []

    def parts(self):
        """Return the traffic and the forced closings that the calls lead to."""
        traffic = [call for call in self.calls if call != "force"]
        ahead = [self.calls[:place] for place, call in enumerate(self.calls) if call == "force"]
        return traffic, [len([call for call in calls if call != "force"]) for calls in ahead]

    def closings(self):
        traffic, forced = self.parts()
        return closings_slowly(traffic, self.rule, forced=forced)

    def state(self):
        traffic, forced = self.parts()
        found = self.closings()
        start = ([0] + found)[-1]
        rest = measured_slowly(traffic, start, len(traffic)) if start < len(traffic) else None
        return (self.rule, traffic, found, forced, rest, len(traffic))

    def call(self, what):
        """Take an item or "force" and return the batches that this closes."""
        traffic, before = self.parts()[0], self.closings()
        if what == "force" and ([0] + before)[-1] == len(traffic):
            return []
        self.calls.append(what)
        added = self.closings()[len(before):]
        return list(zip(([0] + before)[-1:] + added, added))


class AddTest(unittest.TestCase):
    def test_closed_batches(self):
        batcher = Batcher((("weight", 9), ("items", 3)))
        found = [batcher.add((0, weight, "a", False)) for weight in (1, 1, 9, 4)]
        self.assertEqual(found, [[], [], [(0, 2), (2, 3)], []])

    def test_none_one_or_two_batches(self):
        self.assertEqual(Batcher((("items", 1), ("items", 1))).add(ITEM), [(0, 1)])
        # A single item that reaches the cap stays open until a next one comes.
        batcher = Batcher((None, ("items", 1)))
        self.assertEqual([batcher.add(ITEM) for _ in range(3)], [[], [(0, 1)], [(1, 2)]])
        batcher = Batcher((None, None))
        self.assertEqual([batcher.add(ITEM) for _ in range(40)], [[]] * 40)

    def test_the_cap_needs_an_open_item(self):
        batcher = Batcher((("marks", 1), ("weight", 2)))
        self.assertEqual([batcher.add(ITEM), batcher.add(ITEM)], [[(0, 1)], [(1, 2)]])

    def test_forty_items_and_the_next_one(self):
        batcher = filled(RULE, TRAFFIC * 5)
        state = state_of(batcher)
        for _ in range(2):
            with self.assertRaises(TooLarge) as caught:
                batcher.add(ITEM)
            self.assertEqual(vars(caught.exception), {"limit": 40})
            with self.assertRaises(InvalidItem):
                batcher.add(None)
            self.assertEqual(state_of(batcher), state)
        batcher.undo()
        self.assertEqual(len(batcher), 39)
        batcher.add(ITEM)
        self.assertEqual(batcher.traffic, (TRAFFIC * 5)[:39] + [ITEM])

    def test_any_value_that_is_no_item(self):
        batcher = filled(RULE, TRAFFIC[:2])
        state = state_of(batcher)
        for at, value in enumerate(odd_values() + [list(ITEM), ITEM[:3], [ITEM], (True, *ITEM[1:]), Equal()]):
            with self.subTest(at=at), self.assertRaises(InvalidItem):
                batcher.add(value)
            self.assertEqual(state_of(batcher), state)

    def test_any_value_that_is_no_rule(self):
        for at, value in enumerate(wrong_rules()):
            with self.subTest(at=at), self.assertRaises(InvalidRule):
                Batcher(value)

    def test_the_closings_of_the_traffic_after_each_item(self):
        for traffic, rule in random_cases(121):
            batcher = Batcher(rule)
            for many, item in enumerate(traffic, start=1):
                before = batcher.closings
                closed = batcher.add(item)
                self.assertEqual(batcher.closings, closings(traffic[:many], rule))
                self.assertEqual([end for _, end in closed], batcher.closings[len(before):])
                self.assertEqual([start for start, _ in closed], ([0] + batcher.closings)[len(before):-1])
                self.assertEqual(batcher.forced, [])


class ForceTest(unittest.TestCase):
    def test_open_batches(self):
        batcher = Batcher((("items", 3), None))
        added = [batcher.add((0, 1, "a", False)) for _ in range(4)]
        self.assertEqual([added, batcher.force(), batcher.force()], [[[], [], [(0, 3)], []], (3, 4), None])

    def test_no_open_item(self):
        batcher = Batcher(TWO)
        for _ in range(2):
            self.assertIsNone(batcher.force())
            self.assertEqual(state_of(batcher), (TWO, [], [], [], None, 0))
        batcher.add(ITEM)
        batcher.add(ITEM)
        state = state_of(batcher)
        self.assertIsNone(batcher.force())
        self.assertEqual(state_of(batcher), state)
        batcher.undo()
        self.assertEqual(batcher.traffic, [ITEM])

    def test_the_batch_behind_is_a_new_one(self):
        batcher = filled(TWO, [ITEM])
        self.assertEqual(batcher.force(), (0, 1))
        self.assertEqual([batcher.add(ITEM), batcher.add(ITEM)], [[], [(1, 3)]])
        self.assertEqual([batcher.closings, batcher.forced], [[1, 3], [1]])


class PropertiesTest(unittest.TestCase):
    def test_properties(self):
        batcher = Batcher((("items", 3), None))
        added = [
            batcher.add((2, 5, "a", True)), batcher.force(), batcher.add((2, 5, "b", False)),
            batcher.add((4, 1, "a", True)),
        ]
        self.assertEqual(added, [[], (0, 1), [], []])
        self.assertEqual([batcher.closings, batcher.forced, batcher.rest], [[1], [1], (2, 6, 4, 2, 1)])
        self.assertEqual(batcher.rule, (("items", 3), None))
        self.assertEqual(batcher.traffic, [(2, 5, "a", True), (2, 5, "b", False), (4, 1, "a", True)])

    def test_at_the_beginning(self):
        self.assertEqual(state_of(Batcher(DEEP)), (DEEP, [], [], [], None, 0))

    def test_they_are_no_methods_and_cannot_be_assigned(self):
        batcher = Batcher(DEEP)
        for name in ("rule", "traffic", "closings", "forced", "rest"):
            self.assertIsInstance(vars(Batcher)[name], property)
            with self.assertRaises(AttributeError):
                setattr(batcher, name, None)

    def test_each_method_is_defined_in_the_class_itself(self):
        for name in ("add", "force", "undo", "fork", "replay", "__len__", "__eq__", "__init__"):
            self.assertIn(name, vars(Batcher))
        self.assertIsInstance(vars(Batcher)["replay"], classmethod)

    def test_returned_values_are_new_ones(self):
        batcher = filled(DEEP, TRAFFIC)
        batcher.force()
        batcher.add(ITEM)
        state = copy.deepcopy(state_of(batcher))
        rule = batcher.rule
        rule[0][1][0][1].clear()
        rule[0][1].pop()
        rule[1][1].append(None)
        for values in (batcher.traffic, batcher.closings, batcher.forced):
            values.clear()
        closed = batcher.add(ITEM)
        closed.append(None)
        batcher.undo()
        self.assertEqual(state_of(batcher), state)

    def test_no_references_to_arguments_are_kept(self):
        rule, traffic, forced = copy.deepcopy(DEEP), list(TRAFFIC), [1, 4]
        batchers = [Batcher(rule), Batcher.replay(rule, traffic, forced=forced)]
        batchers.append(batchers[1].fork())
        states = [copy.deepcopy(state_of(batcher)) for batcher in batchers]
        rule[0][1][0][1][0] = ("items", 1)
        rule[0][1].append(("items", 1))
        rule[1][1].clear()
        traffic.clear()
        forced.append(5)
        self.assertEqual([state_of(batcher) for batcher in batchers], states)
        expected = Batcher(DEEP)
        for item in TRAFFIC:
            self.assertEqual(batchers[0].add(item), expected.add(item))


class UndoTest(unittest.TestCase):
    def test_one_call(self):
        batcher = Batcher(TWO)
        added = [batcher.add((0, 1, "a", False)), batcher.add((0, 2, "a", False))]
        self.assertEqual(added, [[], [(0, 2)]])
        self.assertEqual([batcher.closings, batcher.undo(), batcher.closings], [[2], None, []])
        self.assertEqual(batcher.rest, (1, 1, 0, 1, 0))

    def test_nothing_is_left(self):
        batcher = Batcher(TWO)
        for _ in range(3):
            with self.assertRaises(NothingToUndo):
                batcher.undo()
            batcher.add(ITEM)
            batcher.force()
            self.assertEqual([batcher.undo(), batcher.undo()], [None, None])
            self.assertEqual(state_of(batcher), (TWO, [], [], [], None, 0))

    def test_calls_that_changed_nothing_are_not_reverted(self):
        batcher = filled(TWO, [ITEM])
        batcher.force()
        batcher.force()
        with self.assertRaises(InvalidItem):
            batcher.add(None)
        batcher.undo()
        self.assertEqual([batcher.forced, len(batcher)], [[], 1])
        batcher.undo()
        self.assertEqual(len(batcher), 0)
        with self.assertRaises(NothingToUndo):
            batcher.undo()

    def test_three_hundred_calls(self):
        batcher = Batcher(RULE)
        for turn in range(100):
            batcher.add(TRAFFIC[turn % 8])
            batcher.force()
            if len(batcher) == 40 or turn % 3 == 0:
                batcher.undo()
            if len(batcher) == 40:
                batcher.undo()
        self.assertEqual(batcher.closings, closings_with(batcher.traffic, RULE, batcher.forced))


class CallsTest(unittest.TestCase):
    """Random calls against a slow reading."""

    def walk(self, numbers, rule, turns):
        batcher, model, kept = Batcher(rule), Model(rule), []
        for _ in range(turns):
            what = numbers.choice(["add", "add", "add", "force", "undo", "wrong"])
            if what == "undo":
                if model.calls:
                    self.assertIsNone(batcher.undo())
                    model.calls.pop()
                else:
                    self.assertRaises(NothingToUndo, batcher.undo)
            elif what == "wrong":
                self.assertRaises(InvalidItem, batcher.add, (0, 0, "a", 0))
            elif what == "force":
                closed = model.call("force")
                self.assertEqual(batcher.force(), closed[0] if closed else None)
            elif len(batcher) < 40:
                item = random_item(numbers)
                self.assertEqual(batcher.add(item), model.call(item))
            self.assertEqual(state_of(batcher), model.state())
            self.assertEqual(batcher.closings, closings_with(batcher.traffic, rule, batcher.forced))
            if numbers.random() < 0.1:
                kept.append((batcher, list(model.calls)))
                batcher = batcher.fork()
        return kept + [(batcher, model.calls)]

    def test_random_calls(self):
        numbers = source(122)
        for turn in range(60):
            rule = random_rule(numbers)
            for batcher, calls in self.walk(numbers, rule, 100 if turn < 4 else 20):
                model = Model(rule)
                model.calls = list(calls)
                expected = [model.state()]
                while model.calls:
                    model.calls.pop()
                    expected.append(model.state())
                self.assertEqual(undone(batcher), expected)


class ForkTest(unittest.TestCase):
    def test_an_independent_batcher(self):
        batcher = Batcher(TWO)
        first = batcher.add((0, 1, "a", False))
        other = batcher.fork()
        same = batcher == other
        found = [first, same, other.force(), batcher == other, len(other), batcher.closings]
        self.assertEqual(found, [[], True, (0, 1), False, 1, []])

    def test_both_are_changed_and_reverted(self):
        for change_first in (True, False):
            batcher = filled(TWO, TRAFFIC[:3])
            batcher.force()
            other = batcher.fork()
            changed, kept = (batcher, other) if change_first else (other, batcher)
            state = state_of(kept)
            changed.add(ITEM)
            changed.force()
            self.assertEqual(state_of(kept), state)
            self.assertEqual(len(undone(changed)), 7)
            self.assertEqual(state_of(kept), state)
            self.assertEqual(len(undone(kept)), 5)
            self.assertEqual(state_of(changed), state_of(kept))

    def test_a_fork_of_nothing(self):
        other = Batcher(DEEP).fork()
        self.assertIsInstance(other, Batcher)
        self.assertEqual(other, Batcher(DEEP))
        with self.assertRaises(NothingToUndo):
            other.undo()


class EqualTest(unittest.TestCase):
    def test_other_ways_to_the_same_state(self):
        batcher = filled(TWO, TRAFFIC[:3])
        batcher.force()
        other = filled(TWO, TRAFFIC[:5])
        other.undo()
        other.undo()
        self.assertFalse(batcher == other)
        self.assertTrue(batcher != other)
        other.force()
        self.assertTrue(batcher == other)
        self.assertFalse(batcher != other)
        self.assertTrue(batcher == Batcher.replay(TWO, TRAFFIC[:3], forced=[3]))

    def test_rules_traffic_and_forced_closings(self):
        batcher = filled(TWO, TRAFFIC[:3])
        self.assertFalse(batcher == filled((None, ("items", 2)), TRAFFIC[:3]))
        # Rules that are alike are not the same.
        self.assertFalse(batcher == filled((("items", 2), ("items", 3)), TRAFFIC[:3]))
        self.assertFalse(batcher == filled(TWO, TRAFFIC[:2]))
        self.assertFalse(batcher == filled(TWO, [*TRAFFIC[:2], (0, 3, "a", True)]))
        self.assertFalse(Batcher.replay(TWO, TRAFFIC, forced=[1]) == Batcher.replay(TWO, TRAFFIC, forced=[1, 2]))
        self.assertTrue(Batcher.replay(TWO, TRAFFIC, forced=[2]) == Batcher.replay(TWO, TRAFFIC))
        self.assertTrue(filled(DEEP, TRAFFIC) == filled(copy.deepcopy(DEEP), list(TRAFFIC)))

    def test_other_values(self):
        batcher = Batcher(TWO)
        for at, value in enumerate(odd_values() + [TWO, state_of(batcher), Batcher, Equal()]):
            with self.subTest(at=at):
                self.assertIs(batcher == value, False)
                self.assertIs(batcher != value, True)

    def test_a_batcher_without_items(self):
        self.assertTrue(Batcher(TWO) == Batcher(TWO))
        self.assertEqual(len(Batcher(TWO)), 0)


class ReplayTest(unittest.TestCase):
    def test_forced_closings(self):
        batcher = Batcher.replay(RULE, TRAFFIC, forced=[3, 4])
        self.assertEqual([batcher.closings, batcher.forced], [[3, 4, 6, 8], [4]])
        self.assertEqual(Batcher.replay(RULE, TRAFFIC), filled(RULE, TRAFFIC))
        self.assertEqual(Batcher.replay(RULE, TRAFFIC, forced=None), filled(RULE, TRAFFIC))
        self.assertEqual(Batcher.replay(RULE, TRAFFIC, forced=[]), filled(RULE, TRAFFIC))
        self.assertEqual(Batcher.replay(DEEP, []), Batcher(DEEP))
        self.assertIsInstance(Batcher.replay(DEEP, []), Batcher)
        self.assertEqual(Batcher.replay((None, None), ones(40), forced=list(range(1, 41))).closings, list(range(1, 41)))
        with self.assertRaises(TypeError):
            Batcher.replay(RULE, TRAFFIC, [3])

    def test_the_calls_one_by_one(self):
        for traffic, rule in short_cases(123, 40):
            for forced in choices(range(1, len(traffic) + 1)):
                batcher, expected = Batcher.replay(rule, traffic, forced=forced), Batcher(rule)
                states = [state_of(expected)]
                for gap, item in enumerate(traffic, start=1):
                    expected.add(item)
                    states.append(state_of(expected))
                    if gap in forced and expected.force() is not None:
                        states.append(state_of(expected))
                self.assertEqual(batcher, expected)
                self.assertEqual(batcher.closings, closings_with(traffic, rule, batcher.forced))
                self.assertEqual(batcher.closings, closings_with(traffic, rule, forced))
                self.assertEqual(undone(batcher), states[::-1])

    def test_forty_items(self):
        numbers = source(124)
        for _ in range(20):
            traffic, rule = long_traffic(numbers), random_rule(numbers)
            forced = sorted(numbers.sample(range(1, 41), numbers.randrange(20)))
            batcher = Batcher.replay(rule, traffic, forced=forced)
            self.assertEqual(batcher.closings, closings_with(traffic, rule, forced))
            many = 40 + len(batcher.forced)
            self.assertEqual(len(undone(batcher)), many + 1)

    def test_wrong_values(self):
        for at, value in enumerate(wrong_rules()):
            with self.subTest(at=at), self.assertRaises(InvalidRule):
                Batcher.replay(value, TRAFFIC)
        for at, value in enumerate(wrong_traffics()):
            with self.subTest(at=at), self.assertRaises(InvalidTraffic):
                Batcher.replay(RULE, value)
        wrong = [value for value in odd_values() if value is not None and value != []] + wrong_lists(8)
        for at, value in enumerate(wrong + [0, False, (), HUGE]):
            with self.subTest(at=at), self.assertRaises(InvalidGaps):
                Batcher.replay(RULE, TRAFFIC, forced=value)

    def test_the_order_of_the_errors(self):
        for rule, traffic, forced, error in [
            (None, None, 0, InvalidRule), (None, TRAFFIC, [0], InvalidRule), (None, None, [], InvalidRule),
            (RULE, None, 0, InvalidTraffic), (RULE, (), [9], InvalidTraffic), (RULE, [], [1], InvalidGaps),
        ]:
            with self.assertRaises(error):
                Batcher.replay(rule, traffic, forced=forced)
