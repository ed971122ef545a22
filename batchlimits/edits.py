"""Edits of a traffic and what they change about the closings."""

from batchlimits.checks import GREATEST, is_within
from batchlimits.errors import InvalidEdit, TooLarge
from batchlimits.items import MOST_ITEMS, check_traffic, is_item
from batchlimits.nexts import closings_from, next_gaps
from batchlimits.rules import check_rule

PARTS = {"insert": 3, "remove": 2, "pause": 3, "weight": 3}


def is_edit_of(traffic, value):
    """Return whether any value is an edit of what is known to be a traffic."""
    if not isinstance(value, tuple) or not value or not isinstance(value[0], str):
        return False
    if PARTS.get(value[0]) != len(value):
        return False
    if value[0] == "insert":
        return is_within(value[1], 0, len(traffic)) and is_item(value[2])
    if not is_within(value[1], 0, len(traffic) - 1):
        return False
    return value[0] == "remove" or is_within(value[2], 0, GREATEST)


def check_edit(traffic, edit):
    """Raise InvalidEdit unless a value is an edit of a traffic; raise TooLarge if there would be too many items."""
    if not is_edit_of(traffic, edit):
        raise InvalidEdit("an edit inserts or removes an item, or replaces the pause or the weight of one")
    if edit[0] == "insert" and len(traffic) == MOST_ITEMS:
        raise TooLarge(MOST_ITEMS)


def is_edit(traffic, value):
    """Return whether any value is an edit of a traffic."""
    check_traffic(traffic)
    return is_edit_of(traffic, value)


def after_edit(traffic, edit):
    """Return the traffic after what is known to be an edit of it."""
    word, number = edit[:2]
    if word == "insert":
        return [*traffic[:number], edit[2], *traffic[number:]]
    if word == "remove":
        return traffic[:number] + traffic[number + 1:]
    pause, weight, kind, marked = traffic[number]
    item = (edit[2], weight, kind, marked) if word == "pause" else (pause, edit[2], kind, marked)
    return [*traffic[:number], item, *traffic[number + 1:]]


def edited(traffic, edit):
    """Return the traffic after an edit."""
    check_traffic(traffic)
    check_edit(traffic, edit)
    return after_edit(traffic, edit)


def row_of(traffic, rule):
    """Return the row from 0 of what are known to be a traffic and a rule."""
    return [0, *closings_from(next_gaps(traffic, rule), 0)]


def check_all(traffic, rule, edit):
    """Raise an error unless values are a traffic, a rule and an edit of the traffic, for which there is room."""
    check_traffic(traffic)
    check_rule(rule)
    check_edit(traffic, edit)


def rows_of(traffic, rule, edit):
    """Return the rows from 0 of a traffic and of the edited one."""
    check_all(traffic, rule, edit)
    return (row_of(traffic, rule), row_of(after_edit(traffic, edit), rule))


def added_closings(traffic, rule, edit):
    """Return the number of closings of the edited traffic minus that of the traffic."""
    old, new = rows_of(traffic, rule, edit)
    return len(new) - len(old)


def growth_of(traffic, edit):
    """Return a number that is positive, negative or 0, as an edit adds to the traffic, takes from it or neither."""
    word, number = edit[:2]
    if word == "insert":
        return 1
    if word == "remove":
        return -1
    return edit[2] - traffic[number][0 if word == "pause" else 1]


def edit_bounds(traffic, rule, edit):
    """Return the least and the greatest number of added closings for this sort of edit."""
    check_all(traffic, rule, edit)
    growth = growth_of(traffic, edit)
    if growth == 0:
        return (0, 0)
    most = 1 if rule[1] is None or edit[0] == "pause" else 2
    return (0, most) if growth > 0 else (-most, 0)


def same_places(edit):
    """Return the least old gap for which a new gap means the same place, and how much greater the new gap is."""
    word, number = edit[:2]
    if word == "insert":
        return (number, 1)
    if word == "remove":
        return (number + 1, -1)
    # The pause of the first item of a batch does not count, so the gap ahead of it means the same place already.
    return (number if word == "pause" else number + 1, 0)


def agreement(traffic, edit, old, new):
    """Return the least gaps (old, new) that mean the same place and are in both rows, or the numbers of items."""
    least, shift = same_places(edit)
    for gap in old:
        if gap >= least and gap + shift in new:
            return (gap, gap + shift)
    # A pause and a weight shift the gaps by 0 as they leave the number of items.
    return (len(traffic), len(traffic) + shift)


def agree_from(traffic, rule, edit):
    """Return the least gaps (old, new) from which on both rows are the same, or the numbers of items of both."""
    old, new = rows_of(traffic, rule, edit)
    return agreement(traffic, edit, old, new)


def new_batches(traffic, rule, edit):
    """Return the ascending list of the batches of the edited traffic that are not old ones."""
    old, new = rows_of(traffic, rule, edit)
    end_of_new = agreement(traffic, edit, old, new)[1]
    old_batches = list(zip(old, old[1:]))
    found = []
    for batch in zip(new, new[1:]):
        end = batch[1]
        is_old = end <= edit[1] and batch in old_batches
        if end <= end_of_new and not is_old:
            found.append(batch)
    return found
