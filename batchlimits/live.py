"""Live batches: items come one after another."""

from batchlimits.errors import InvalidItem, NothingToUndo, TooLarge
from batchlimits.items import MOST_ITEMS, check_gaps, check_traffic, is_item, measured
from batchlimits.nexts import rest_start
from batchlimits.rules import check_rule, copied_rule, is_reached


class Batcher:
    """Takes items one after another and closes batches by a rule, and where it is told to."""

    def __init__(self, rule):
        """Begin with no items."""
        check_rule(rule)
        self._rule = copied_rule(rule)
        self._items = []
        self._closings = []
        self._forced = []
        # Each change only appends, so the lengths of the three lists before it are enough to revert it.
        self._lengths = []

    def _keep_lengths(self):
        """Keep what undo needs, ahead of a change."""
        self._lengths.append((len(self._items), len(self._closings), len(self._forced)))

    def add(self, item):
        """Append an item and return the list of the batches that this closes: none, one or two."""
        if not is_item(item):
            raise InvalidItem("an item is a tuple (pause, weight, kind, marked)")
        if len(self._items) == MOST_ITEMS:
            raise TooLarge(MOST_ITEMS)
        self._keep_lengths()
        goal, cap = self._rule
        start, ahead = rest_start(self._closings), len(self._items)
        self._items.append(item)
        closed = []
        if cap is not None and start < ahead and is_reached(cap, measured(self._items[start:])):
            closed.append((start, ahead))
            start = ahead
        if goal is not None and is_reached(goal, measured(self._items[start:])):
            closed.append((start, ahead + 1))
        self._closings.extend([batch[1] for batch in closed])
        return closed

    def force(self):
        """Close the open batch behind its last item and return it, or return None if no item is open."""
        start, end = rest_start(self._closings), len(self._items)
        if start == end:
            return None
        self._keep_lengths()
        self._closings.append(end)
        self._forced.append(end)
        return (start, end)

    def undo(self):
        """Revert the last call of add, or of force that closed a batch, that has not been reverted."""
        if not self._lengths:
            raise NothingToUndo("there is no call to revert")
        items, closings, forced = self._lengths.pop()
        self._items = self._items[:items]
        self._closings = self._closings[:closings]
        self._forced = self._forced[:forced]

    def fork(self):
        """Return an independent batcher in the same state, in which the same calls can be reverted."""
        other = Batcher(self._rule)
        other._items = list(self._items)
        other._closings = list(self._closings)
        other._forced = list(self._forced)
        other._lengths = list(self._lengths)
        return other

    @classmethod
    def replay(cls, rule, traffic, *, forced=None):
        """Return a batcher that has taken the items of a traffic and has been forced at these gaps."""
        batcher = cls(rule)
        check_traffic(traffic)
        gaps = [] if forced is None else forced
        check_gaps(traffic, gaps)
        for number, item in enumerate(traffic):
            batcher.add(item)
            if number + 1 in gaps:
                batcher.force()
        return batcher

    @property
    def rule(self):
        """Return the rule."""
        return copied_rule(self._rule)

    @property
    def traffic(self):
        """Return the list of the items."""
        return list(self._items)

    @property
    def closings(self):
        """Return the list of the gaps at which batches were closed."""
        return list(self._closings)

    @property
    def forced(self):
        """Return the list of the gaps that force closed."""
        return list(self._forced)

    @property
    def rest(self):
        """Return the measures of the open items, or None if no item is open."""
        stretch = self._items[rest_start(self._closings):]
        return measured(stretch) if stretch else None

    def __len__(self):
        """Return the number of items."""
        return len(self._items)

    def __eq__(self, other):
        """Return whether the other value is a batcher with the same rule, traffic and forced closings."""
        return (
            isinstance(other, Batcher) and self._rule == other._rule
            and self._items == other._items and self._forced == other._forced
        )
