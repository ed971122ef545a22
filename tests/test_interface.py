"""The interface: each name is defined in the file under which the document lists it."""

import importlib
import inspect
import pathlib
import unittest

import batchlimits

FUNCTIONS = {
    "items": {
        "is_item": "(value)", "is_traffic": "(value)", "times_of": "(traffic)",
        "measures_of": "(traffic, start, end)", "repeated": "(traffic, times)",
    },
    "rules": {
        "is_condition": "(value)", "is_rule": "(value)", "any_of": "(*conditions)", "all_of": "(*conditions)",
        "limits_of": "(condition)", "reaches": "(traffic, condition, start, end)",
        "first_reach": "(traffic, condition, start)",
    },
    "closings": {
        "next_closing": "(traffic, rule, start)", "closings": "(traffic, rule, *, start=0)",
        "rest_of": "(traffic, rule)", "reason_of": "(traffic, rule, gap)", "batch_of": "(traffic, rule, item)",
        "walk_batches": "(traffic, rule)",
    },
    "rows": {
        "meeting": "(traffic, rule, first, second)", "certain_closings": "(traffic, rule, low, high)",
        "possible_closings": "(traffic, rule, low, high)", "kth_range": "(traffic, rule, low, high, number)",
        "starts_with": "(traffic, rule, gap)",
    },
    "forms": {
        "clauses_of": "(condition)", "normal_form": "(rule)", "idle_clauses": "(rule)",
        "are_alike": "(rule, other)", "parting_traffic": "(rule, other)", "is_never_later": "(rule, other)",
        "later_traffic": "(rule, other)",
    },
    "forced": {
        "closings_with": "(traffic, rule, forced)", "added_by": "(traffic, rule, forced, gap)",
        "costs_of": "(traffic, rule)", "fewest_forced": "(traffic, rule, told)",
        "is_enough": "(traffic, rule, told, forced)",
    },
    "joined": {
        "latest_plan": "(traffic, rule, joined)", "fewest_forced_plan": "(traffic, rule, joined)",
        "forced_in": "(traffic, rule, closings)", "obstruction_of": "(traffic, rule, joined)",
        "is_obstruction": "(traffic, rule, joined, value)", "count_plans": "(traffic, rule, joined)",
    },
    "edits": {
        "is_edit": "(traffic, value)", "edited": "(traffic, edit)", "added_closings": "(traffic, rule, edit)",
        "edit_bounds": "(traffic, rule, edit)", "agree_from": "(traffic, rule, edit)",
        "new_batches": "(traffic, rule, edit)",
    },
    "explaining": {
        "explains": "(traffic, rule, closings)", "goal_range": "(traffic, closings, measure)",
        "cap_range": "(traffic, closings, measure)", "least_goals": "(traffic, closings, measures)",
        "open_stretch": "(traffic, closings, batch, measure)",
    },
}
ERRORS = (
    "BatchError", "InvalidItem", "InvalidTraffic", "InvalidStretch", "InvalidCondition", "InvalidRule",
    "InvalidMeasure", "InvalidGap", "InvalidGaps", "InvalidEdit", "InvalidPattern", "InvalidNumber",
    "InvalidCommand", "NothingToUndo", "Blocked", "Unexplained", "InvalidText", "TooLarge",
)


class InterfaceTest(unittest.TestCase):
    def test_functions_are_defined_in_their_files(self):
        for file, functions in FUNCTIONS.items():
            module = importlib.import_module(f"batchlimits.{file}")
            for name, signature in functions.items():
                with self.subTest(file=file, name=name):
                    function = getattr(module, name)
                    self.assertTrue(inspect.isfunction(function))
                    self.assertEqual(function.__module__, module.__name__)
                    self.assertEqual(str(inspect.signature(function)), signature)

    def test_errors_are_defined_in_their_file(self):
        module = importlib.import_module("batchlimits.errors")
        for name in ERRORS:
            with self.subTest(name=name):
                self.assertEqual(getattr(module, name).__module__, "batchlimits.errors")

    def test_the_package_stands_beside_the_tests(self):
        folder = pathlib.Path(batchlimits.__file__).parent
        self.assertEqual(folder, pathlib.Path(__file__).parent.parent / "batchlimits")
