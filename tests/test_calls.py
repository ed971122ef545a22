"""Points 2 and 3: what holds for every function: the order of the errors, arguments that stay, results that are new."""

import copy
import itertools
import unittest

from batchlimits import errors, rows
from tests.tables import (
    CALLS, KINDS, RULES, TRAFFIC, change_argument, change_result, outcome, spread, valid_arguments,
)


class ErrorsTest(unittest.TestCase):
    def test_any_value_as_each_argument(self):
        for function, *kinds in CALLS:
            arguments = valid_arguments(kinds)[0]
            for place, kind in enumerate(kinds):
                _, wrong, error = KINDS[kind]
                for at, value in enumerate(wrong):
                    given = arguments[:place] + [value] + arguments[place + 1:]
                    with self.subTest(function=function.__name__, kinds=kinds, place=place, at=at):
                        with self.assertRaises(errors.BatchError) as caught:
                            function(*given)
                        self.assertIs(caught.exception.__class__, error)

    def test_the_first_of_several_wrong_arguments(self):
        for function, *kinds in CALLS:
            arguments = valid_arguments(kinds)[0]
            for many in (2, 3):
                for places in itertools.combinations(range(len(kinds)), many):
                    wrong = [spread(KINDS[kinds[place]][1], 7) for place in places]
                    for values in itertools.product(*wrong):
                        given = list(arguments)
                        for place, value in zip(places, values):
                            given[place] = value
                        with self.assertRaises(errors.BatchError) as caught:
                            function(*given)
                        self.assertIs(caught.exception.__class__, KINDS[kinds[places[0]]][2], (kinds, places))

    def test_low_is_at_most_high(self):
        for function in (rows.certain_closings, rows.possible_closings):
            with self.assertRaises(errors.InvalidGaps):
                function(TRAFFIC, RULES[0], 3, 2)
        with self.assertRaises(errors.InvalidGaps):
            rows.kth_range(TRAFFIC, RULES[0], 3, 2, 0)


class ValuesTest(unittest.TestCase):
    def test_arguments_are_unchanged(self):
        for function, *kinds in CALLS:
            for given in valid_arguments(kinds):
                kept = copy.deepcopy(given)
                function(*given)
                self.assertEqual(given, kept)

    def test_returned_values_may_be_changed(self):
        for function, *kinds in CALLS:
            for given in valid_arguments(kinds):
                kept = copy.deepcopy(given)
                first = function(*given)
                expected = copy.deepcopy(first)
                change_result(first)
                self.assertEqual(given, kept)
                self.assertEqual(function(*given), expected)

    def test_arguments_that_were_changed_in_place_are_read_anew(self):
        changes = 0
        for function, *kinds in CALLS:
            for given in valid_arguments(kinds):
                before = function(*given)
                for kind, value in zip(kinds, given):
                    change_argument(kind, value)
                found = outcome(function, given)
                self.assertEqual(found, outcome(function, copy.deepcopy(given)))
                changes += found != before
        self.assertGreater(changes, len(CALLS))

    def test_equal_arguments_give_equal_results(self):
        for function, *kinds in CALLS:
            for given in valid_arguments(kinds):
                found = function(*given)
                self.assertEqual(function(*copy.deepcopy(given)), found)
                self.assertEqual(repr(function(*given)), repr(found))
