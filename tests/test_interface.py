"""The interface: each name is defined in the file under which the document lists it."""

import importlib
import inspect
import pathlib
import unittest

import batchlimits

FUNCTIONS = {
    "items": {
        "is_item": "(value)", "is_traffic": "(value)", "times_of": "(traffic)",
        "measures_of": "(traffic, start, end)", "repeated": "(traffic, times)",
    },
    "rules": {
        "is_condition": "(value)", "is_rule": "(value)", "any_of": "(*conditions)", "all_of": "(*conditions)",
        "limits_of": "(condition)", "reaches": "(traffic, condition, start, end)",
        "first_reach": "(traffic, condition, start)",
    },
    "closings": {
        "next_closing": "(traffic, rule, start)", "closings": "(traffic, rule, *, start=0)",
        "rest_of": "(traffic, rule)", "reason_of": "(traffic, rule, gap)", "batch_of": "(traffic, rule, item)",
        "walk_batches": "(traffic, rule)",
    },
    "rows": {
        "meeting": "(traffic, rule, first, second)", "certain_closings": "(traffic, rule, low, high)",
        "possible_closings": "(traffic, rule, low, high)", "kth_range": "(traffic, rule, low, high, number)",
        "starts_with": "(traffic, rule, gap)",
    },
    "forms": {
        "clauses_of": "(condition)", "normal_form": "(rule)", "idle_clauses": "(rule)",
        "are_alike": "(rule, other)", "parting_traffic": "(rule, other)", "is_never_later": "(rule, other)",
        "later_traffic": "(rule, other)",
    },
    "forced": {
        "closings_with": "(traffic, rule, forced)", "added_by": "(traffic, rule, forced, gap)",
        "costs_of": "(traffic, rule)", "fewest_forced": "(traffic, rule, told)",
        "is_enough": "(traffic, rule, told, forced)",
    },
    "joined": {
        "latest_plan": "(traffic, rule, joined)", "fewest_forced_plan": "(traffic, rule, joined)",
        "forced_in": "(traffic, rule, closings)", "obstruction_of": "(traffic, rule, joined)",
        "is_obstruction": "(traffic, rule, joined, value)", "count_plans": "(traffic, rule, joined)",
    },
    "edits": {
        "is_edit": "(traffic, value)", "edited": "(traffic, edit)", "added_closings": "(traffic, rule, edit)",
        "edit_bounds": "(traffic, rule, edit)", "agree_from": "(traffic, rule, edit)",
        "new_batches": "(traffic, rule, edit)",
    },
    "explaining": {
        "explains": "(traffic, rule, closings)", "goal_range": "(traffic, closings, measure)",
        "cap_range": "(traffic, closings, measure)", "least_goals": "(traffic, closings, measures)",
        "open_stretch": "(traffic, closings, batch, measure)",
    },
    "texts": {
        "format_traffic": "(traffic)", "format_condition": "(condition)", "format_rule": "(rule)",
        "parse_traffic": "(text)", "parse_condition": "(text)", "parse_rule": "(text)",
    },
    "repeats": {
        "far_measures": "(pattern, start, end)", "far_closing": "(pattern, rule, start)",
        "nth_closing": "(pattern, rule, start, number)", "count_closings": "(pattern, rule, start, end)",
        "round_of": "(pattern, rule, start)", "far_meeting": "(pattern, rule, first, second)",
    },
}
CLASSES = {
    "live": {
        "Batcher": {
            "__init__": "(self, rule)", "add": "(self, item)", "force": "(self)", "undo": "(self)", "fork": "(self)",
            "replay": "(cls, rule, traffic, *, forced=None)", "__len__": "(self)", "__eq__": "(self, other)",
            "rule": "(self)", "traffic": "(self)", "closings": "(self)", "forced": "(self)", "rest": "(self)",
        },
    },
    "console": {"Console": {"__init__": "(self)", "execute": "(self, row)"}},
}
ERRORS = (
    "BatchError", "InvalidItem", "InvalidTraffic", "InvalidStretch", "InvalidCondition", "InvalidRule",
    "InvalidMeasure", "InvalidGap", "InvalidGaps", "InvalidEdit", "InvalidPattern", "InvalidNumber",
    "InvalidCommand", "NothingToUndo", "Blocked", "Unexplained", "InvalidText", "TooLarge",
)


class InterfaceTest(unittest.TestCase):
    def test_functions_are_defined_in_their_files(self):
        for file, functions in FUNCTIONS.items():
            module = importlib.import_module(f"batchlimits.{file}")
            for name, signature in functions.items():
                with self.subTest(file=file, name=name):
                    function = getattr(module, name)
                    self.assertTrue(inspect.isfunction(function))
                    self.assertEqual(function.__module__, module.__name__)
                    self.assertEqual(str(inspect.signature(function)), signature)

    def test_classes_and_their_methods_are_defined_in_their_files(self):
        for file, classes in CLASSES.items():
            module = importlib.import_module(f"batchlimits.{file}")
            for name, methods in classes.items():
                kind = getattr(module, name)
                self.assertEqual(kind.__module__, module.__name__)
                for method, signature in methods.items():
                    with self.subTest(kind=name, method=method):
                        found = vars(kind)[method]
                        function = getattr(found, "fget", None) or getattr(found, "__func__", found)
                        self.assertEqual(str(inspect.signature(function)), signature)

    def test_errors_are_defined_in_their_file(self):
        module = importlib.import_module("batchlimits.errors")
        for name in ERRORS:
            with self.subTest(name=name):
                self.assertEqual(getattr(module, name).__module__, "batchlimits.errors")

    def test_the_package_stands_beside_the_tests(self):
        folder = pathlib.Path(batchlimits.__file__).parent
        self.assertEqual(folder, pathlib.Path(__file__).parent.parent / "batchlimits")
