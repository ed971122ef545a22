"""What holds over the whole program: alike rules, edits one after another, live batches, consoles, patterns."""

import copy
import unittest

from batchlimits.closings import batch_of, closings, next_closing, rest_of, walk_batches
from batchlimits.console import Console
from batchlimits.edits import added_closings, agree_from, edited, new_batches
from batchlimits.errors import Blocked
from batchlimits.explaining import explains, goal_range
from batchlimits.forced import added_by, closings_with, costs_of, fewest_forced, is_enough
from batchlimits.forms import are_alike, is_never_later, later_traffic, normal_form, parting_traffic
from batchlimits.items import repeated
from batchlimits.joined import count_plans, fewest_forced_plan, forced_in, latest_plan, obstruction_of
from batchlimits.live import Batcher
from batchlimits.repeats import count_closings, far_closing, far_meeting, nth_closing, round_of
from batchlimits.rows import certain_closings, kth_range, meeting, possible_closings, starts_with
from batchlimits.rules import all_of, any_of, limits_of
from batchlimits.texts import format_rule, format_traffic, parse_rule, parse_traffic
from tests.slow import closings_slowly
from tests.tables import outcome
from tests.test_edits import edits_of
from tests.values import HUGE, long_traffic, random_item, random_rule, random_traffic, source


def rewritten(condition, numbers):
    """Return a condition that is reached by the same stretches, written in another way."""
    if condition is None:
        return None
    if len(limits_of(condition)) <= 3 and numbers.random() < 0.5:
        # What is reached if one of two is, and the first one: the first one.
        return all_of(condition, any_of(condition)) if numbers.random() < 0.5 else any_of(condition, condition)
    if condition[0] in ("any", "all"):
        parts = [rewritten(part, numbers) if len(limits_of(condition)) <= 2 else part for part in condition[1]]
        return (condition[0], numbers.sample(parts, len(parts)))
    return condition


def with_idle_limits(rule, numbers):
    """Return a rule that is alike: with a goal clause that the cap closes ahead of, or the reverse."""
    goal, cap = rule
    if goal is not None and goal[0] == "items" and cap is None:
        return (goal, ("items", min(goal[1] + numbers.randrange(1, 4), 40)))
    if cap is not None and cap[0] == "weight" and goal is None:
        return (("all", [cap, ("items", 2)]), cap)
    return rule


def alike_pairs(seed, many):
    """Return pairs of rules that are alike but not equal."""
    numbers = source(seed)
    found = []
    while len(found) < many:
        rule = random_rule(numbers)
        other = with_idle_limits(tuple(rewritten(part, numbers) for part in rule), numbers)
        if rule != other:
            found.append((rule, other))
    return found


class AlikeRulesTest(unittest.TestCase):
    def test_the_same_answers_everywhere(self):
        numbers = source(171)
        for rule, other in alike_pairs(172, 150):
            self.assertTrue(are_alike(rule, other), (rule, other))
            for traffic in (random_traffic(numbers, 12), long_traffic(numbers)):
                for call in calls_on(traffic, numbers):
                    self.assertEqual(outcome(call, [rule]), outcome(call, [other]), (traffic, rule, other))

    def test_normal_forms_and_comparisons(self):
        for rule, other in alike_pairs(173, 200):
            self.assertEqual(normal_form(rule), normal_form(other))
            self.assertIsNone(parting_traffic(rule, other))
            self.assertTrue(is_never_later(rule, other) and is_never_later(other, rule))
            self.assertIsNone(later_traffic(other, rule))

    def test_far_closings(self):
        numbers = source(174)
        for rule, other in alike_pairs(175, 150):
            pattern = [random_item(numbers) for _ in range(numbers.randrange(1, 8))]
            start = numbers.randrange(HUGE // 2)
            for call in [
                lambda rule: far_closing(pattern, rule, start), lambda rule: nth_closing(pattern, rule, start, HUGE),
                lambda rule: count_closings(pattern, rule, start, HUGE), lambda rule: round_of(pattern, rule, start),
                lambda rule: far_meeting(pattern, rule, start, start // 2),
            ]:
                self.assertEqual(call(rule), call(other), (pattern, rule, other))

    def test_rules_that_are_not_alike_part_on_a_traffic(self):
        numbers = source(176)
        for _ in range(200):
            rule, other = random_rule(numbers), random_rule(numbers)
            traffic = parting_traffic(rule, other)
            if traffic is None:
                self.assertEqual(normal_form(rule), normal_form(other))
            else:
                self.assertNotEqual(closings(traffic, rule), closings(traffic, other))
                batchers = [Batcher.replay(each, traffic) for each in (rule, other)]
                self.assertNotEqual(batchers[0].closings, batchers[1].closings)


def calls_on(traffic, numbers):
    """Return functions of a rule whose answers depend on the closings alone."""
    many = len(traffic)
    low, high = sorted(numbers.choices(range(many + 1), k=2))
    forced = sorted(numbers.sample(range(1, many + 1), numbers.randrange(min(many, 5) + 1)))
    joined = sorted(numbers.sample(range(1, many), numbers.randrange(min(many, 6)))) if many else []
    found = [
        lambda rule: [next_closing(traffic, rule, gap) for gap in range(many + 1)],
        lambda rule: closings(traffic, rule, start=low), lambda rule: rest_of(traffic, rule),
        lambda rule: [batch_of(traffic, rule, number) for number in range(many)],
        lambda rule: [(start, end) for start, end, _ in walk_batches(traffic, rule)],
        lambda rule: meeting(traffic, rule, low, high), lambda rule: starts_with(traffic, rule, high),
        lambda rule: certain_closings(traffic, rule, low, high),
        lambda rule: possible_closings(traffic, rule, low, high), lambda rule: kth_range(traffic, rule, low, high, 2),
        lambda rule: closings_with(traffic, rule, forced), lambda rule: costs_of(traffic, rule),
        lambda rule: [added_by(traffic, rule, forced, gap) for gap in range(1, many + 1)],
        lambda rule: fewest_forced(traffic, rule, forced), lambda rule: is_enough(traffic, rule, forced, forced[:2]),
        lambda rule: latest_plan(traffic, rule, joined), lambda rule: obstruction_of(traffic, rule, joined),
        lambda rule: len(fewest_forced_plan(traffic, rule, joined)), lambda rule: count_plans(traffic, rule, joined),
        lambda rule: forced_in(traffic, rule, closings_with(traffic, rule, forced)),
        lambda rule: explains(traffic, rule, forced), lambda rule: Batcher.replay(rule, traffic, forced=forced).closings,
        lambda rule: Batcher.replay(rule, traffic, forced=forced).rest,
    ]
    room = traffic[:39]
    for edit in numbers.sample(edits_of(room, numbers), min(len(room) + 1, 5)):
        found.append(lambda rule, edit=edit: added_closings(room, rule, edit))
        found.append(lambda rule, edit=edit: agree_from(room, rule, edit))
        found.append(lambda rule, edit=edit: new_batches(room, rule, edit))
    return found


class EditsTest(unittest.TestCase):
    def test_edits_one_after_another(self):
        numbers = source(177)
        for _ in range(60):
            rule, traffic, added = random_rule(numbers), random_traffic(numbers, 9), 0
            first = closings_slowly(traffic, rule)
            for _ in range(12):
                edit = numbers.choice(edits_of(traffic, numbers))
                added += added_closings(traffic, rule, edit)
                expected = closings_slowly(edited(traffic, edit), rule)
                old, new = agree_from(traffic, rule, edit)
                moved = [gap + new - old for gap in closings(traffic, rule) if gap > old]
                self.assertEqual([gap for gap in expected if gap > new], moved)
                # Up to the new gap each closing is the end of a new batch or an old closing ahead of the edit.
                ends = [end for _, end in new_batches(traffic, rule, edit)]
                ends += [gap for gap in closings(traffic, rule) if gap <= edit[1]]
                self.assertEqual([gap for gap in expected if gap <= new and gap not in ends], [])
                traffic = edited(traffic, edit)
                self.assertEqual(len(closings(traffic, rule)), len(first) + added)

    def test_an_edited_traffic_is_a_traffic_for_all(self):
        numbers = source(178)
        for _ in range(60):
            rule, traffic = random_rule(numbers), random_traffic(numbers, 9)
            traffic = edited(traffic, numbers.choice(edits_of(traffic, numbers)))
            self.assertEqual(parse_traffic(format_traffic(traffic)), traffic)
            self.assertEqual(Batcher.replay(rule, traffic).closings, closings(traffic, rule))


class LiveTest(unittest.TestCase):
    def test_live_batches_and_closings_with(self):
        numbers = source(179)
        for _ in range(100):
            traffic, rule = long_traffic(numbers), random_rule(numbers)
            batcher = Batcher(rule)
            closed = []
            for item in traffic:
                closed += batcher.add(item)
                if numbers.random() < 0.2:
                    closed += [batch for batch in [batcher.force()] if batch]
                found = closings_with(batcher.traffic, batcher.rule, batcher.forced)
                self.assertEqual(batcher.closings, found)
                self.assertEqual(closed, list(zip([0] + found, found)))
            self.assertTrue(explains(traffic, rule, batcher.closings) or batcher.forced)
            self.assertEqual(batcher, Batcher.replay(batcher.rule, batcher.traffic, forced=batcher.forced))
            # The closings of a batcher that forced is none of are a plan of which some are forced.
            self.assertEqual(closings_with(traffic, rule, forced_in(traffic, rule, batcher.closings)), batcher.closings)

    def test_a_plan_is_carried_out_live(self):
        numbers = source(180)
        for _ in range(200):
            traffic, rule = random_traffic(numbers, 12), random_rule(numbers)
            joined = sorted(numbers.sample(range(1, len(traffic)), numbers.randrange(len(traffic)))) if traffic else []
            try:
                forced = fewest_forced_plan(traffic, rule, joined)
            except Blocked as error:
                self.assertEqual(error.stretch, obstruction_of(traffic, rule, joined))
                self.assertEqual(count_plans(traffic, rule, joined), 0)
                continue
            batcher = Batcher.replay(rule, traffic, forced=forced)
            self.assertEqual(batcher.forced, forced)
            self.assertFalse(set(batcher.closings) & set(joined))
            self.assertGreaterEqual(len(batcher.closings), len(latest_plan(traffic, rule, joined)))


class ConsoleTest(unittest.TestCase):
    def test_a_console_is_a_batcher_with_texts(self):
        numbers = source(181)
        for _ in range(60):
            traffic, rule = long_traffic(numbers), random_rule(numbers)
            console, batcher = Console(), Batcher(parse_rule(format_rule(rule)))
            console.execute(f"rule {format_rule(rule)}")
            while len(batcher) < 40:
                many = numbers.randrange(1, 6)
                some = traffic[len(batcher):len(batcher) + many]
                closed = [batch for item in some for batch in batcher.add(item)]
                shown = " ".join(f"{start}-{end}" for start, end in closed) or "none"
                self.assertEqual(console.execute(f"add {format_traffic(some)}"), shown)
                if numbers.random() < 0.3:
                    forced = batcher.force()
                    self.assertEqual(console.execute("force"), f"{forced[0]}-{forced[1]}" if forced else "none")
            self.assertEqual(console.execute("closings"), " ".join(map(str, batcher.closings)) or "none")
            found = goal_range(batcher.traffic, batcher.closings, "weight")
            bounds = "none" if found is None else f"{found[0]} {'any' if found[1] is None else found[1]}"
            self.assertEqual(console.execute("bounds weight"), bounds)


class PatternsTest(unittest.TestCase):
    def test_patterns_written_out(self):
        numbers = source(182)
        for _ in range(150):
            pattern = [random_item(numbers) for _ in range(numbers.randrange(1, 8))]
            rule = random_rule(numbers)
            traffic = repeated(pattern, 40 // len(pattern))
            # What closes ahead of the last item closes on the endless traffic, too.
            for start in range(len(traffic) - 1):
                found = next_closing(traffic, rule, start)
                far = far_closing(pattern, rule, start)
                if found is not None or far is not None and far < len(traffic):
                    self.assertEqual(found, far)
            batcher = Batcher.replay(rule, traffic)
            ends = [gap for gap in batcher.closings if gap < len(traffic)]
            self.assertEqual(count_closings(pattern, rule, 0, len(traffic) - 1), len(ends))


class ArgumentsTest(unittest.TestCase):
    def test_returned_values_are_arguments_of_other_functions(self):
        numbers = source(183)
        for _ in range(60):
            rule, traffic = random_rule(numbers), random_traffic(numbers, 9)
            kept = copy.deepcopy((rule, traffic))
            batcher = Batcher(parse_rule(format_rule(rule)))
            for item in parse_traffic(format_traffic(traffic)):
                batcher.add(item)
            other = Batcher.replay(batcher.rule, batcher.traffic, forced=batcher.forced)
            self.assertEqual(batcher, other)
            self.assertEqual(closings_with(other.traffic, other.rule, other.closings), other.closings)
            self.assertEqual((rule, traffic), kept)
