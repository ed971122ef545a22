"""Points 62 to 64: the console."""

import unittest

from batchlimits.closings import reason_of
from batchlimits.console import Console
from batchlimits.errors import (
    BatchError, Blocked, InvalidCommand, InvalidGap, InvalidGaps, InvalidText, NothingToUndo, TooLarge,
)
from batchlimits.explaining import goal_range
from batchlimits.forced import closings_with, fewest_forced
from batchlimits.forms import normal_form
from batchlimits.items import measures_of
from batchlimits.joined import latest_plan
from batchlimits.rows import meeting
from batchlimits.texts import format_rule, format_traffic
from tests.test_closings import RULE, TRAFFIC
from tests.test_texts import NESTED
from tests.values import HUGE, Equal, odd_values, ones, random_item, random_rule, random_traffic, source

WEIGHTS = "0/2/a 0/1/a 0/3/a 0/1/a 0/2/a 0/2/a 0/1/a 0/3/a"
MEASURES = ("items", "weight", "age", "kinds", "marks")
QUESTIONS = ("closings", "rest", "form", *[f"bounds {measure}" for measure in MEASURES])


def console_with(*rows):
    console = Console()
    for row in rows:
        console.execute(row)
    return console


def answers(console, *rows):
    return [console.execute(row) for row in rows]


def seen(console):
    """Return all answers that tell about the state of a console."""
    found = answers(console, *QUESTIONS)
    for first in range(42):
        for row in (f"reason {first}", f"meet {first} 0", f"fewest {first}", f"plan {first}"):
            found.append(outcome(console, row))
    return found


def outcome(console, row):
    """Return the answer to a row, or the error that it raises with its fields."""
    try:
        return console.execute(row)
    except BatchError as error:
        return (error.__class__, vars(error))


def joined_words(values, none="none"):
    return " ".join(str(value) for value in values) or none


class Model:
    """A slow reading of a console: its rule, its traffic and its forced closings, and the states before."""

    def __init__(self):
        self.state, self.earlier = ((None, None), [], []), []

    def change(self, state):
        self.earlier.append(self.state)
        self.state = state

    def closings(self):
        rule, traffic, forced = self.state
        return closings_with(traffic, rule, forced)

    def closed_by(self, state):
        """Go on with a state and return the batches that this closes."""
        many = len(self.closings())
        self.change(state)
        gaps = [0] + self.closings()
        return joined_words(f"{start}-{end}" for start, end in list(zip(gaps, gaps[1:]))[many:])

    def execute(self, word, given):
        """Carry out a row that is given by its first word and a value."""
        rule, traffic, forced = self.state
        if word == "rule":
            self.change((given, [], []))
            return "ok"
        if word == "add":
            if len(traffic) + len(given) > 40:
                raise TooLarge(40)
            return self.closed_by((rule, traffic + given, forced)) if given else "none"
        if word == "force":
            if ([0] + self.closings())[-1] == len(traffic):
                return "none"
            return self.closed_by((rule, traffic, forced + [len(traffic)]))
        if word == "undo":
            if not self.earlier:
                raise NothingToUndo("nothing")
            self.state = self.earlier.pop()
            return "ok"
        return self.answer(word, given)

    def answer(self, word, given):
        rule, traffic, _ = self.state
        if word == "closings":
            return joined_words(self.closings())
        if word == "rest":
            start = ([0] + self.closings())[-1]
            return joined_words(measures_of(traffic, start, len(traffic))) if start < len(traffic) else "none"
        if word == "reason":
            return reason_of(traffic, rule, *given)
        if word == "plan":
            return joined_words(latest_plan(traffic, rule, given))
        if word == "fewest":
            return joined_words(fewest_forced(traffic, rule, given))
        if word == "bounds":
            found = goal_range(traffic, self.closings(), given)
            return "none" if found is None else joined_words("any" if bound is None else bound for bound in found)
        if word == "meet":
            return str(meeting(traffic, rule, *given)).lower()
        sides = [joined_words("/".join(map(str, clause)) for clause in side) for side in normal_form(rule)]
        return "; ".join(sides)


def written(word, given):
    """Return the row of a first word and a value."""
    if word == "rule":
        return f"rule {format_rule(given)}"
    if word == "add":
        return f"add {format_traffic(given)}"
    if word == "bounds":
        return f"bounds {given}"
    return " ".join([word, *map(str, given or [])])


def random_call(numbers):
    """Return a first word and a value for a random row."""
    word = numbers.choice([
        "rule", "add", "add", "add", "add", "force", "force", "undo", "undo", "closings", "rest", "reason", "plan",
        "fewest", "bounds", "meet", "form",
    ])
    gaps = sorted(numbers.sample(range(13), numbers.randrange(4)))
    values = {
        "rule": random_rule(numbers), "add": random_traffic(numbers, numbers.choice([0, 2, 9])), "reason": [numbers.randrange(12)],
        "plan": gaps, "fewest": gaps, "bounds": numbers.choice(MEASURES), "meet": numbers.choices(range(12), k=2),
    }
    return word, values.get(word)


class ExamplesTest(unittest.TestCase):
    def test_each_row(self):
        console = Console()
        for row, answer in [
            ("rule goal weight>=4 cap none", "ok"), ("add 0/2/a 0/1/a 0/3/a 0/1/a", "0-3"), ("rest", "1 1 0 1 0"),
            ("force", "3-4"), ("force", "none"), ("closings", "3 4"), ("reason 3", "goal"), ("bounds weight", "none"),
            ("undo", "ok"), ("form", "1/4/0/1/0; none"), ("closings", "3"), ("bounds weight", "4 6"),
            ("add 0/2/a 0/2/a 0/1/a 0/3/a", "3-6 6-8"), ("closings", "3 6 8"), ("rest", "none"),
            ("meet 0 2", "6"), ("meet 7 0", "none"), ("plan", "3 6 8"), ("plan 3", "2 4 6 8"), ("fewest 4 8", "4"),
            ("fewest", "none"), ("add ", "none"), ("undo", "ok"), ("closings", "3"), ("undo", "ok"), ("rest", "none"),
            ("undo", "ok"), ("form", "none; none"),
        ]:
            with self.subTest(row=row):
                self.assertEqual(console.execute(row), answer)

    def test_at_the_beginning(self):
        expected = ["none", "none", "none; none"] + ["1 any"] * 5
        self.assertEqual(answers(Console(), *QUESTIONS), expected)
        self.assertEqual(answers(Console(), "plan", "fewest", "meet 0 0", "force"), ["none", "none", "0", "none"])

    def test_the_method_is_defined_in_the_class_itself(self):
        self.assertIn("execute", vars(Console))


class ChangesTest(unittest.TestCase):
    def test_rule_begins_anew(self):
        console = console_with("rule goal items>=1 cap none", "add 0/1/a 0/1/b")
        self.assertEqual(answers(console, "rule goal none cap none", "closings", "rest"), ["ok", "none", "none"])
        text = "rule goal any( items>=3 all( weight>=5 marks>=1 ) ) cap none"
        self.assertEqual(console.execute(text), "ok")
        expected = " ".join("/".join(map(str, clause)) for clause in normal_form((NESTED, None))[0])
        self.assertEqual(console.execute("form"), expected + "; none")

    def test_undo_of_a_rule_row(self):
        console = console_with("rule goal items>=2 cap none", "add 0/1/a 0/1/b 0/1/c", "force")
        before = seen(console)
        # Also with the same rule, and without items before.
        for _ in range(3):
            self.assertEqual(console.execute("rule goal items>=2 cap none"), "ok")
        self.assertEqual(answers(console, "closings", "undo", "undo", "undo"), ["none", "ok", "ok", "ok"])
        self.assertEqual(seen(console), before)
        self.assertEqual(answers(console, "undo", "closings", "undo", "undo", "form"), ["ok", "2", "ok", "ok", "none; none"])
        with self.assertRaises(NothingToUndo):
            console.execute("undo")

    def test_undo_reverts_a_whole_row(self):
        console = console_with("rule goal items>=2 cap none", "add 0/1/a 0/1/b 0/1/c", "add 0/1/d")
        self.assertEqual(answers(console, "closings", "undo", "closings", "rest"), ["2 4", "ok", "2", "1 1 0 1 0"])
        self.assertEqual(answers(console, "undo", "closings", "rest"), ["ok", "none", "none"])

    def test_rows_that_change_nothing_are_not_reverted(self):
        console = console_with("rule goal items>=2 cap none", "add 0/1/a")
        for row in ["add ", "force", "force", "add ", *QUESTIONS, "meet 0 0", "plan", "fewest"]:
            console.execute(row)
        for row in ["add 1", "rule ", "reason 7", "wrong", "plan 0"]:
            with self.assertRaises(BatchError):
                console.execute(row)
        self.assertEqual(answers(console, "closings", "undo", "closings", "rest"), ["1", "ok", "none", "1 1 0 1 0"])
        self.assertEqual(answers(console, "undo", "rest", "undo", "form"), ["ok", "none", "ok", "none; none"])
        for _ in range(2):
            with self.assertRaises(NothingToUndo):
                console.execute("undo")

    def test_all_items_or_none_of_them(self):
        console = console_with("rule goal items>=7 cap none", "add " + format_traffic(ones(39)))
        before = seen(console)
        for row in ["add 0/1/a 0/1/a", "add " + format_traffic(ones(40)), "add 0/1/a 0/1/b!"]:
            with self.assertRaises(TooLarge) as caught:
                console.execute(row)
            self.assertEqual(vars(caught.exception), {"limit": 40})
            self.assertEqual(seen(console), before)
        with self.assertRaises(InvalidText):
            console.execute("add 0/1/a wrong")
        self.assertEqual(answers(console, "rest", "add 0/1/a", "rest"), ["4 4 0 1 0", "none", "5 5 0 1 0"])
        with self.assertRaises(TooLarge):
            console.execute("add 0/1/a")
        self.assertEqual(answers(console, "add ", "undo", "add 0/1/b", "rest"), ["none", "ok", "none", "5 5 0 2 0"])

    def test_three_hundred_rows(self):
        console = console_with("rule goal items>=3 cap none")
        for turn in range(149):
            row = "add 0/1/a" if turn % 2 else "add 0/1/a 0/2/b"
            console.execute(row if turn % 10 else "rule goal items>=3 cap none")
            if turn % 3 == 0:
                console.execute("force")
        while outcome(console, "undo") == "ok":
            pass
        self.assertEqual(seen(console), seen(Console()))


class AgainstFunctionsTest(unittest.TestCase):
    def test_random_rows(self):
        numbers = source(141)
        for _ in range(40):
            console, model = Console(), Model()
            for _ in range(80):
                word, given = random_call(numbers)
                try:
                    expected = model.execute(word, given)
                except BatchError as error:
                    expected = (error.__class__, vars(error))
                self.assertEqual(outcome(console, written(word, given)), expected, (word, given, model.state))

    def test_consoles_are_independent(self):
        first, second = Console(), Console()
        first.execute("rule goal items>=1 cap none")
        first.execute("add 0/1/a")
        self.assertEqual(answers(second, "closings", "form"), ["none", "none; none"])
        with self.assertRaises(NothingToUndo):
            second.execute("undo")

    def test_questions_regard_the_traffic_and_the_rule_alone(self):
        console = console_with(f"rule {format_rule(RULE)}", f"add {format_traffic(TRAFFIC[:4])}", "force",
                               f"add {format_traffic(TRAFFIC[4:])}")
        self.assertEqual(answers(console, "closings", "reason 3", "reason 6"), ["3 4 6 8", "goal", "goal"])
        self.assertEqual(answers(console, "plan", "fewest 4", "meet 3 0"), ["3 6 8", "4", "3"])
        self.assertEqual(outcome(console, "reason 4"), (InvalidGap, {}))
        # The bounds are for the closings with the forced one.
        self.assertEqual(console.execute("bounds weight"), "none")


class ErrorsTest(unittest.TestCase):
    def test_values_that_are_no_strings(self):
        for at, value in enumerate(odd_values() + [Equal(), ["force"], ("force",), b"force"]):
            with self.subTest(at=at), self.assertRaises(InvalidCommand):
                Console().execute(value)

    def test_rows_of_no_form(self):
        console = console_with(f"rule {format_rule(RULE)}", f"add {format_traffic(TRAFFIC)}")
        before = seen(console)
        for row in [
            "", " ", "  ", "\n", "Force", "FORCE", "close", "help", "none", "any",
            "rule", "add", "rules goal none cap none", "adding 0/1/a",
            " force", "force ", "force  ", "force 1", "force none", "undo ", " undo", "undo 1", "undo undo",
            "closings ", "closings 0", " closings", "rest ", "rest 1", "form ", "form 1", "form;",
            "reason", "reason ", "reason 3 ", "reason  3", "reason 3 6", "reason x", "reason goal",
            "meet", "meet ", "meet 0", "meet 0 ", "meet  0 2", "meet 0  2", "meet 0 2 ", "meet 0 2 3", "meet 0 x",
            "plan ", "plan  3", "plan 3 ", "plan 3  4", "plan x", "plan 3,4", "plan 3 x",
            "fewest ", "fewest  3", "fewest 3 ", "fewest x", "fewest 3 none",
            "bounds", "bounds ", "bounds  items", "bounds items ", "bounds items weight", "bounds Items", "bounds 3",
            "force items", "undo items", "closings items", "rest weight", "form items", "reason items", "meet items",
            "plan items", "fewest items", "close items", "items", "items items",
            "bounds pause", "bounds any", " bounds items", " add 0/1/a", " rule goal none cap none",
        ]:
            with self.subTest(row=row), self.assertRaises(InvalidCommand):
                console.execute(row)
        self.assertEqual(seen(console), before)

    def test_newlines(self):
        rows = ["force", "closings", "undo", "form", "plan 3", "bounds items", "add 0/1/a", "add ", "rule goal none cap none"]
        for row in rows:
            for wrong in (row + "\n", "\n" + row, row.replace(" ", "\n", 1) + "\n", row[:3] + "\n" + row[3:]):
                with self.subTest(row=wrong), self.assertRaises(InvalidCommand):
                    console_with("add 0/1/a").execute(wrong)

    def test_forms_of_numbers(self):
        console = console_with(f"rule {format_rule(RULE)}", f"add {format_traffic(TRAFFIC)}")
        for number in ["01", "00", "03", "+3", "-3", "-0", "3.0", "1_0", "0x3", "three", "\u0663", "1" * 32, "0" * 31]:
            for row in (f"reason {number}", f"meet {number} 0", f"meet 0 {number}", f"plan {number}",
                        f"plan 3 {number}", f"fewest {number}", f"fewest {number} 3"):
                with self.subTest(row=row), self.assertRaises(InvalidCommand):
                    console.execute(row)

    def test_numbers_that_are_no_gaps(self):
        console = console_with(f"rule {format_rule(RULE)}", f"add {format_traffic(TRAFFIC)}")
        for number in ("9", str(HUGE), str(10 * HUGE - 1), "9" * 31):
            for row in (f"reason {number}", f"meet {number} 0", f"meet 0 {number}"):
                self.assertEqual(outcome(console, row), (InvalidGap, {}))
            for row in (f"plan {number}", f"plan 3 {number}", f"fewest {number}"):
                self.assertEqual(outcome(console, row), (InvalidGaps, {}))
        for row in ("plan 0", "plan 8", "plan 3 3", "plan 4 3", "fewest 0", "fewest 4 4", "fewest 9"):
            self.assertEqual(outcome(console, row), (InvalidGaps, {}))
        for row in ("reason 0", "reason 1", "reason 9"):
            self.assertEqual(outcome(console, row), (InvalidGap, {}))

    def test_blocked(self):
        console = console_with("rule goal items>=2 cap none", "add " + format_traffic(ones(8)))
        self.assertEqual(outcome(console, "plan 3 4"), (Blocked, {"stretch": (2, 4)}))
        self.assertEqual(outcome(console, "plan 3 5"), "2 4 6 8")

    def test_texts(self):
        console = console_with("rule goal items>=2 cap none", "add 0/1/a")
        before = seen(console)
        for row, position in [
            ("rule ", 0), ("rule  ", 0), ("rule  goal none cap none", 0), ("rule goal none cap none ", 4),
            ("rule goal none", 2), ("rule goal  none cap none", 1), ("rule none", 0), ("rule goal any( items>=3 ) cap none", 3),
            ("rule goal none cap items>=41", 3), ("rule rule goal none cap none", 0),
            ("add  ", 0), ("add  0/1/a", 0), ("add 0/1/a ", 1), ("add 0/1/a  0/1/a", 1), ("add 1", 0), ("add 0/1/A", 0),
            ("add 0/1/a add", 1), ("add " + format_traffic(ones(40)) + " 0/1/a", 40), ("add 00/1/a", 0),
            (f"add 0/{HUGE + 1}/a", 0), ("add none", 0),
        ]:
            with self.subTest(row=row):
                self.assertEqual(outcome(console, row), (InvalidText, {"position": position}))
        self.assertEqual(seen(console), before)

    def test_the_order_of_the_errors(self):
        console = console_with("add " + format_traffic(ones(40)))
        self.assertEqual(outcome(console, "add wrong\n"), (InvalidCommand, {}))
        self.assertEqual(outcome(console, "add 0/1/a wrong"), (InvalidText, {"position": 1}))
        self.assertEqual(outcome(console, "add " + format_traffic(ones(40)) + " wrong"), (InvalidText, {"position": 40}))
        self.assertEqual(outcome(console, "add 0/1/a"), (TooLarge, {"limit": 40}))
        self.assertEqual(outcome(Console(), "undo "), (InvalidCommand, {}))
        self.assertEqual(outcome(Console(), "undo"), (NothingToUndo, {}))
        self.assertEqual(outcome(Console(), "reason 99 99"), (InvalidCommand, {}))

    def test_great_numbers(self):
        console = console_with("rule goal weight>=41 cap none", f"add {HUGE}/{HUGE}/a! 0/{HUGE}/b {HUGE}/0/abcdefgh")
        self.assertEqual(answers(console, "closings", "rest", "form"), ["1 2", f"1 0 0 1 0", "1/41/0/1/0; none"])
        self.assertEqual(console.execute("bounds weight"), f"1 {HUGE}")
        item = random_item(source(142))
        self.assertEqual(console.execute("add " + format_traffic([item])), "none")
