"""Points 2 and 3: what holds for every function: the order of the errors, arguments that stay, results that are new."""

import copy
import itertools
import unittest

from batchlimits import closings, errors, forced, forms, rows
from tests.test_forced import wrong_lists
from tests.test_items import wrong_traffics
from tests.test_rules import wrong_conditions, wrong_rules
from tests.values import HUGE, odd_values, weights

TRAFFIC = weights(2, 1, 3, 1, 2, 2, 1, 3)
NO_INTEGERS = [value for value in odd_values() if value.__class__ is not int]
WRONG_GAPS = NO_INTEGERS + [-1, -HUGE, 9, HUGE]
WRONG_LISTS = [value for value in odd_values() if value != []] + wrong_lists(8)

# Each kind of argument: valid values, values of all kinds that are wrong, the error.
RULES = [(("weight", 4), None), (("any", [("weight", 4), ("items", 3)]), ("all", [("items", 3), ("weight", 6)]))]
KINDS = {
    "traffic": ([TRAFFIC], wrong_traffics(), errors.InvalidTraffic),
    "rule": (RULES, wrong_rules(), errors.InvalidRule),
    "condition": ([RULES[0][0], RULES[1][0]], wrong_conditions(), errors.InvalidCondition),
    "gap": ([0, 2, 6, 8], WRONG_GAPS, errors.InvalidGap),
    "closing": ([8], WRONG_GAPS + [0, 1], errors.InvalidGap),
    "forced gap": ([1, 3, 8], WRONG_GAPS + [0], errors.InvalidGap),
    "item": ([0, 7], WRONG_GAPS + [8], errors.InvalidItem),
    "low": ([0, 2], WRONG_GAPS, errors.InvalidGaps),
    "high": ([2, 8], WRONG_GAPS, errors.InvalidGaps),
    "number": ([1, 3, HUGE], NO_INTEGERS + [0, -1, -HUGE], errors.InvalidNumber),
    "gaps": ([[], [3, 8], [1, 2, 5]], WRONG_LISTS, errors.InvalidGaps),
}
CALLS = [
    (closings.next_closing, "traffic", "rule", "gap"),
    (lambda traffic, rule, start: closings.closings(traffic, rule, start=start), "traffic", "rule", "gap"),
    (closings.closings, "traffic", "rule"),
    (closings.rest_of, "traffic", "rule"),
    (closings.reason_of, "traffic", "rule", "closing"),
    (closings.batch_of, "traffic", "rule", "item"),
    (lambda traffic, rule: list(closings.walk_batches(traffic, rule)), "traffic", "rule"),
    (rows.meeting, "traffic", "rule", "gap", "gap"),
    (rows.certain_closings, "traffic", "rule", "low", "high"),
    (rows.possible_closings, "traffic", "rule", "low", "high"),
    (rows.kth_range, "traffic", "rule", "low", "high", "number"),
    (rows.starts_with, "traffic", "rule", "gap"),
    (forms.clauses_of, "condition"),
    (forms.normal_form, "rule"),
    (forms.idle_clauses, "rule"),
    (forms.are_alike, "rule", "rule"),
    (forms.parting_traffic, "rule", "rule"),
    (forms.is_never_later, "rule", "rule"),
    (forms.later_traffic, "rule", "rule"),
    (forced.closings_with, "traffic", "rule", "gaps"),
    (forced.added_by, "traffic", "rule", "gaps", "forced gap"),
    (forced.costs_of, "traffic", "rule"),
    (forced.fewest_forced, "traffic", "rule", "gaps"),
    (forced.is_enough, "traffic", "rule", "gaps", "gaps"),
]


def valid_arguments(kinds):
    """Return lists of valid arguments, all of them new values."""
    choices = [KINDS[kind][0] for kind in kinds]
    return [copy.deepcopy(list(values)) for values in itertools.product(*choices)]


def spread(values, many):
    """Return so many of the values, from everywhere in the list."""
    return values[::len(values) // many][:many]


def change(value):
    """Change every list within a returned value."""
    if isinstance(value, (list, tuple)):
        for part in value:
            change(part)
    if isinstance(value, list):
        value.append(None)


class ErrorsTest(unittest.TestCase):
    def test_any_value_as_each_argument(self):
        for function, *kinds in CALLS:
            arguments = valid_arguments(kinds)[0]
            for place, kind in enumerate(kinds):
                _, wrong, error = KINDS[kind]
                for at, value in enumerate(wrong):
                    given = arguments[:place] + [value] + arguments[place + 1:]
                    with self.subTest(function=function.__name__, kinds=kinds, place=place, at=at):
                        with self.assertRaises(errors.BatchError) as caught:
                            function(*given)
                        self.assertIs(caught.exception.__class__, error)

    def test_the_first_of_several_wrong_arguments(self):
        for function, *kinds in CALLS:
            arguments = valid_arguments(kinds)[0]
            for many in (2, 3):
                for places in itertools.combinations(range(len(kinds)), many):
                    wrong = [spread(KINDS[kinds[place]][1], 7) for place in places]
                    for values in itertools.product(*wrong):
                        given = list(arguments)
                        for place, value in zip(places, values):
                            given[place] = value
                        with self.assertRaises(errors.BatchError) as caught:
                            function(*given)
                        self.assertIs(caught.exception.__class__, KINDS[kinds[places[0]]][2], (kinds, places))

    def test_low_is_at_most_high(self):
        for function in (rows.certain_closings, rows.possible_closings):
            with self.assertRaises(errors.InvalidGaps):
                function(TRAFFIC, RULES[0], 3, 2)
        with self.assertRaises(errors.InvalidGaps):
            rows.kth_range(TRAFFIC, RULES[0], 3, 2, 0)


class ValuesTest(unittest.TestCase):
    def test_arguments_are_unchanged(self):
        for function, *kinds in CALLS:
            for given in valid_arguments(kinds):
                kept = copy.deepcopy(given)
                function(*given)
                self.assertEqual(given, kept)

    def test_returned_values_may_be_changed(self):
        for function, *kinds in CALLS:
            for given in valid_arguments(kinds):
                kept = copy.deepcopy(given)
                first = function(*given)
                expected = copy.deepcopy(first)
                change(first)
                self.assertEqual(given, kept)
                self.assertEqual(function(*given), expected)

    def test_arguments_that_were_changed_in_place_are_read_anew(self):
        for function, *kinds in CALLS:
            for given in valid_arguments(kinds):
                function(*given)
                for place, kind in enumerate(kinds):
                    if kind == "traffic":
                        given[place].insert(0, (1, 3, "b", True))
                    if kind == "rule" and given[place] == RULES[1]:
                        given[place][0][1].append(("marks", 1))
                    if kind == "condition" and given[place] == RULES[1][0]:
                        given[place][1].pop()
                        given[place][1].append(("marks", 1))
                    if kind == "gaps":
                        given[place][:] = [2, 3]
                if "closing" not in kinds:
                    found = function(*given)
                    self.assertEqual(found, function(*copy.deepcopy(given)))

    def test_equal_arguments_give_equal_results(self):
        for function, *kinds in CALLS:
            for given in valid_arguments(kinds):
                found = function(*given)
                self.assertEqual(function(*copy.deepcopy(given)), found)
                self.assertEqual(repr(function(*given)), repr(found))
