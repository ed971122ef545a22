"""A console: rows of text that change a batcher or ask about it."""

from batchlimits.closings import reason_of
from batchlimits.errors import InvalidCommand, NothingToUndo
from batchlimits.explaining import goal_range
from batchlimits.forced import fewest_forced
from batchlimits.forms import normal_form
from batchlimits.joined import latest_plan
from batchlimits.live import Batcher
from batchlimits.rows import meeting
from batchlimits.rules import is_measure
from batchlimits.texts import NOTHING, parse_rule, parse_traffic, read_number

# How many numbers stand behind the first word of a row; None for any number of them.
NUMBERS = {
    "force": 0, "undo": 0, "closings": 0, "rest": 0, "form": 0,
    "reason": 1, "meet": 2, "plan": None, "fewest": None,
}


def shown(words):
    """Return words, or what is written as a word each, as the answer."""
    return " ".join([str(word) for word in words]) or NOTHING


def shown_batches(batches):
    """Return batches as the answer."""
    return shown([f"{start}-{end}" for start, end in batches])


def shown_clauses(clauses):
    """Return clauses as a part of the answer."""
    return shown(["/".join([str(number) for number in clause]) for clause in clauses])


def show_closings(batcher, numbers):
    """Return the answer to closings."""
    return shown(batcher.closings)


def show_rest(batcher, numbers):
    """Return the answer to rest."""
    return shown(batcher.rest or [])


def show_reason(batcher, numbers):
    """Return the answer to reason."""
    return reason_of(batcher.traffic, batcher.rule, numbers[0])


def show_plan(batcher, numbers):
    """Return the answer to plan."""
    return shown(latest_plan(batcher.traffic, batcher.rule, numbers))


def show_fewest(batcher, numbers):
    """Return the answer to fewest."""
    return shown(fewest_forced(batcher.traffic, batcher.rule, numbers))


def show_bounds(batcher, measure):
    """Return the answer to bounds."""
    found = goal_range(batcher.traffic, batcher.closings, measure)
    if found is None:
        return NOTHING
    least, greatest = found
    return shown([least, "any" if greatest is None else greatest])


def show_meeting(batcher, numbers):
    """Return the answer to meet."""
    found = meeting(batcher.traffic, batcher.rule, numbers[0], numbers[1])
    return NOTHING if found is None else str(found)


def show_form(batcher, numbers):
    """Return the answer to form."""
    goal, cap = normal_form(batcher.rule)
    return f"{shown_clauses(goal)}; {shown_clauses(cap)}"


ANSWERS = {
    "closings": show_closings, "rest": show_rest, "reason": show_reason, "plan": show_plan, "fewest": show_fewest,
    "bounds": show_bounds, "meet": show_meeting, "form": show_form,
}


def are_numbers(word, numbers):
    """Return whether a row may consist of this first word and these numbers, where None is a word that is none."""
    if word not in NUMBERS or None in numbers:
        return False
    return NUMBERS[word] is None or NUMBERS[word] == len(numbers)


def read_row(row):
    """Return the first word of a row and what is behind it: a text, a measure or the list of its numbers."""
    if not isinstance(row, str) or "\n" in row:
        raise InvalidCommand("a row is a string without newlines")
    word, space, text = row.partition(" ")
    if word in ("rule", "add") and space:
        return (word, text)
    if word == "bounds" and is_measure(text):
        return (word, text)
    numbers = [read_number(part) for part in row.split(" ")[1:]]
    if not are_numbers(word, numbers):
        raise InvalidCommand("the row has none of the forms of a command")
    return (word, numbers)


class Console:
    """Holds a batcher, which rows change and ask about."""

    def __init__(self):
        """Begin with a batcher that closes nothing and has no items."""
        self._batcher = Batcher((None, None))
        # The batchers before each change that has not been reverted.
        self._earlier = []

    def execute(self, row):
        """Carry out a row and return its answer."""
        word, given = read_row(row)
        if word == "rule":
            return self._begin(given)
        if word == "add":
            return self._add_all(given)
        if word == "force":
            return self._close()
        if word == "undo":
            return self._revert()
        answer = ANSWERS[word]
        return answer(self._batcher, given)

    def _change_to(self, batcher):
        """Go on with another batcher and keep the one before."""
        self._earlier.append(self._batcher)
        self._batcher = batcher

    def _begin(self, text):
        """Begin anew with the rule of a text."""
        self._change_to(Batcher(parse_rule(text)))
        return "ok"

    def _add_all(self, text):
        """Add all items of a text, or none of them."""
        traffic = parse_traffic(text)
        # If there are too many items, only the fork has taken some of them.
        batcher = self._batcher.fork()
        closed = []
        for item in traffic:
            closed.extend(batcher.add(item))
        if traffic:
            self._change_to(batcher)
        return shown_batches(closed)

    def _close(self):
        """Force a closing."""
        batcher = self._batcher.fork()
        closed = batcher.force()
        if closed is None:
            return NOTHING
        self._change_to(batcher)
        return shown_batches([closed])

    def _revert(self):
        """Revert the last row that changed something."""
        if not self._earlier:
            raise NothingToUndo("no row has changed anything")
        self._batcher = self._earlier.pop()
        return "ok"
