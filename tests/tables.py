"""The functions of the package with the kinds of their arguments, for what holds for all of them."""

import copy
import itertools

from batchlimits import (
    closings, edits, errors, explaining, forced, forms, items, joined, repeats, rows, rules, texts,
)
from batchlimits.console import Console
from batchlimits.live import Batcher
from tests.test_edits import ITEM, wrong_edits
from tests.test_explaining import wrong_batches, wrong_measure_lists, wrong_measures
from tests.test_forced import wrong_lists
from tests.test_items import wrong_traffics
from tests.test_live import state_of
from tests.test_repeats import NO_FAR_GAPS
from tests.test_rules import wrong_conditions, wrong_rules
from tests.values import HUGE, odd_values, ones, weights

TRAFFIC = weights(2, 1, 3, 1, 2, 2, 1, 3)
NO_INTEGERS = [value for value in odd_values() if value.__class__ is not int]
WRONG_GAPS = NO_INTEGERS + [-1, -HUGE, 9, HUGE]
ODD_LISTS = [value for value in odd_values() if value != []]
WRONG_LISTS = ODD_LISTS + wrong_lists(8)
WRONG_BATCHES = [value for value in wrong_batches() if value != (0, 3)] + [(0, 6), (3, 8), (0, 1), (1, 3)]
WRONG_ITEMS = odd_values() + [list(ITEM), ITEM[:3], [ITEM], (ITEM,), (True, *ITEM[1:]), (*ITEM[:3], 1)]
WRONG_PATTERNS = wrong_traffics() + [[], ones(21), ones(40)]
WRONG_TEXTS = [value for value in odd_values() if value != ""] + [" ", "0/5/A", "any(", "items>=41", "goal none cap "]
WRONG_ROWS = odd_values() + ["rule", "add", "reason", "meet 1", "bounds 3", "plan x", "force ", "undo\n", "form 1"]

# Each kind of argument: valid values, values of all kinds that are wrong, the error.
RULES = [(("weight", 4), None), (("any", [("weight", 4), ("items", 3)]), ("all", [("items", 3), ("weight", 6)]))]
EDITS = [("insert", 1, ITEM), ("remove", 0), ("pause", 3, 5), ("weight", 7, 0)]
MEASURES = [["weight", "items"], ["marks", "age", "weight", "kinds", "items"]]
KINDS = {
    "traffic": ([TRAFFIC], wrong_traffics(), errors.InvalidTraffic),
    "rule": (RULES, wrong_rules(), errors.InvalidRule),
    "condition": ([RULES[0][0], RULES[1][0]], wrong_conditions(), errors.InvalidCondition),
    "start": ([0, 2], WRONG_GAPS + [8], errors.InvalidStretch),
    "end": ([3, 8], WRONG_GAPS + [0], errors.InvalidStretch),
    "gap": ([0, 2, 6, 8], WRONG_GAPS, errors.InvalidGap),
    "closing": ([8], WRONG_GAPS + [0, 1], errors.InvalidGap),
    "forced gap": ([1, 3, 8], WRONG_GAPS + [0], errors.InvalidGap),
    "number of an item": ([0, 7], WRONG_GAPS + [8], errors.InvalidItem),
    "low": ([0, 2], WRONG_GAPS, errors.InvalidGaps),
    "high": ([2, 8], WRONG_GAPS, errors.InvalidGaps),
    "number": ([1, 3, HUGE], NO_INTEGERS + [0, -1, -HUGE], errors.InvalidNumber),
    "times": ([0, 1, 5], NO_INTEGERS + [-1, -HUGE], errors.InvalidNumber),
    "gaps": ([[], [3, 8], [1, 2, 5]], WRONG_LISTS, errors.InvalidGaps),
    "joined": ([[], [1], [2, 5]], ODD_LISTS + wrong_lists(7) + [[8]], errors.InvalidGaps),
    "plan": ([list(range(1, 9))], WRONG_LISTS + [[], [4], [1]], errors.InvalidGaps),
    "told": ([[3, 6, 8], [3, 6]], WRONG_LISTS, errors.InvalidGaps),
    "batch": ([(0, 3), (3, 6)], WRONG_BATCHES, errors.InvalidStretch),
    "measure": (["items", "marks"], wrong_measures(), errors.InvalidMeasure),
    "measures": (MEASURES, wrong_measure_lists(), errors.InvalidMeasure),
    "edit": (EDITS, wrong_edits(), errors.InvalidEdit),
    "item": ([ITEM], WRONG_ITEMS, errors.InvalidItem),
    "forced list": ([[], [3, 4]], [value for value in WRONG_LISTS if value is not None], errors.InvalidGaps),
    "traffic text": (["", "0/5/a 2/3/b!"], WRONG_TEXTS, errors.InvalidText),
    "condition text": (["items>=3", "any( age>=9 kinds>=2 )"], WRONG_TEXTS + [""], errors.InvalidText),
    "rule text": (["goal none cap all( weight>=5 age>=9 )"], WRONG_TEXTS + [""], errors.InvalidText),
    "row": (["force", "add 0/5/a", "rule goal none cap none", "form"], WRONG_ROWS, errors.InvalidCommand),
    "pattern": ([TRAFFIC, TRAFFIC[:3]], WRONG_PATTERNS, errors.InvalidPattern),
    "far start": ([0, 5], NO_FAR_GAPS + [HUGE], errors.InvalidStretch),
    "far end": ([6, HUGE], NO_FAR_GAPS + [0], errors.InvalidStretch),
    "far gap": ([0, 7, HUGE // 2], NO_FAR_GAPS, errors.InvalidGap),
    "later far gap": ([HUGE], NO_FAR_GAPS, errors.InvalidGap),
    "far number": ([1, HUGE], NO_INTEGERS + [0, -1, HUGE + 1], errors.InvalidNumber),
}
# What the lists of these kinds are changed to, in place.
CHANGED = {"gaps": [2, 3], "joined": [4], "plan": [1, 2, 3], "told": [3, 6], "measures": ["kinds", "weight"]}
CALLS = [
    (items.times_of, "traffic"),
    (items.measures_of, "traffic", "start", "end"),
    (items.repeated, "traffic", "times"),
    (rules.limits_of, "condition"),
    (rules.any_of, "condition"),
    (rules.all_of, "condition"),
    (rules.reaches, "traffic", "condition", "start", "end"),
    (rules.first_reach, "traffic", "condition", "gap"),
    (closings.next_closing, "traffic", "rule", "gap"),
    (lambda traffic, rule, start: closings.closings(traffic, rule, start=start), "traffic", "rule", "gap"),
    (closings.closings, "traffic", "rule"),
    (closings.rest_of, "traffic", "rule"),
    (closings.reason_of, "traffic", "rule", "closing"),
    (closings.batch_of, "traffic", "rule", "number of an item"),
    (lambda traffic, rule: list(closings.walk_batches(traffic, rule)), "traffic", "rule"),
    (rows.meeting, "traffic", "rule", "gap", "gap"),
    (rows.certain_closings, "traffic", "rule", "low", "high"),
    (rows.possible_closings, "traffic", "rule", "low", "high"),
    (rows.kth_range, "traffic", "rule", "low", "high", "number"),
    (rows.starts_with, "traffic", "rule", "gap"),
    (forms.clauses_of, "condition"),
    (forms.normal_form, "rule"),
    (forms.idle_clauses, "rule"),
    (forms.are_alike, "rule", "rule"),
    (forms.parting_traffic, "rule", "rule"),
    (forms.is_never_later, "rule", "rule"),
    (forms.later_traffic, "rule", "rule"),
    (forced.closings_with, "traffic", "rule", "gaps"),
    (forced.added_by, "traffic", "rule", "gaps", "forced gap"),
    (forced.costs_of, "traffic", "rule"),
    (forced.fewest_forced, "traffic", "rule", "gaps"),
    (forced.is_enough, "traffic", "rule", "gaps", "gaps"),
    (joined.latest_plan, "traffic", "rule", "joined"),
    (joined.fewest_forced_plan, "traffic", "rule", "joined"),
    (joined.forced_in, "traffic", "rule", "plan"),
    (joined.obstruction_of, "traffic", "rule", "joined"),
    (lambda traffic, rule, gaps: joined.is_obstruction(traffic, rule, gaps, (2, 4)), "traffic", "rule", "joined"),
    (joined.count_plans, "traffic", "rule", "joined"),
    (lambda traffic: edits.is_edit(traffic, ("remove", 8)), "traffic"),
    (edits.edited, "traffic", "edit"),
    (edits.added_closings, "traffic", "rule", "edit"),
    (edits.edit_bounds, "traffic", "rule", "edit"),
    (edits.agree_from, "traffic", "rule", "edit"),
    (edits.new_batches, "traffic", "rule", "edit"),
    (explaining.explains, "traffic", "rule", "told"),
    (explaining.goal_range, "traffic", "told", "measure"),
    (explaining.cap_range, "traffic", "told", "measure"),
    (explaining.least_goals, "traffic", "told", "measures"),
    (explaining.open_stretch, "traffic", "told", "batch", "measure"),
    (lambda rule: state_of(Batcher(rule)), "rule"),
    (lambda item: Batcher(RULES[0]).add(item), "item"),
    (lambda rule, traffic: state_of(Batcher.replay(rule, traffic)), "rule", "traffic"),
    (
        lambda rule, traffic, gaps: state_of(Batcher.replay(rule, traffic, forced=gaps)),
        "rule", "traffic", "forced list",
    ),
    (texts.format_traffic, "traffic"),
    (texts.format_condition, "condition"),
    (texts.format_rule, "rule"),
    (texts.parse_traffic, "traffic text"),
    (texts.parse_condition, "condition text"),
    (texts.parse_rule, "rule text"),
    (lambda row: Console().execute(row), "row"),
    (repeats.far_measures, "pattern", "far start", "far end"),
    (repeats.far_closing, "pattern", "rule", "far gap"),
    (repeats.nth_closing, "pattern", "rule", "far gap", "far number"),
    (repeats.count_closings, "pattern", "rule", "far gap", "later far gap"),
    (repeats.round_of, "pattern", "rule", "far gap"),
    (repeats.far_meeting, "pattern", "rule", "far gap", "far gap"),
]


def valid_arguments(kinds):
    """Return lists of valid arguments, all of them new values."""
    choices = [KINDS[kind][0] for kind in kinds]
    return [copy.deepcopy(list(values)) for values in itertools.product(*choices)]


def spread(values, many):
    """Return so many of the values, from everywhere in the list."""
    return values[::len(values) // many][:many]


def change_argument(kind, value):
    """Change an argument in place, if it can be changed, so that it is still one of its kind."""
    if kind in ("traffic", "pattern"):
        value.insert(0, (1, 3, "b", True))
    if kind == "rule" and value == RULES[1]:
        value[0][1].append(("marks", 1))
        value[1][1][0] = ("items", 2)
    if kind == "condition" and value == RULES[1][0]:
        value[1][:] = [("items", 2), ("marks", 1), ("age", 5)]
    if kind in CHANGED:
        value[:] = CHANGED[kind]


def change_result(value):
    """Change every list and dict within a returned value."""
    if isinstance(value, (list, tuple)):
        for part in value:
            change_result(part)
    if isinstance(value, list):
        value.append(None)
    if isinstance(value, dict):
        value.clear()


def outcome(function, given):
    """Return what a call returns, or the error that it raises with its fields."""
    try:
        return function(*given)
    except errors.BatchError as error:
        return (error.__class__, vars(error))
