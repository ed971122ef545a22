"""Bounds that explain told closings.

A goal or a cap of one measure explains told closings if it is reached by some stretches and not by some others, which
must stay open. So the bounds begin behind the greatest measure of the latter and end at the least one of the former.
"""

from batchlimits.checks import is_within
from batchlimits.errors import InvalidMeasure, InvalidStretch, Unexplained
from batchlimits.items import check_gaps, check_traffic, measured
from batchlimits.nexts import closings_from, nexts_of, rest_start
from batchlimits.rules import MEASURES, is_measure


def check_told(traffic, closings):
    """Raise InvalidTraffic or InvalidGaps unless values are a traffic and told closings of it."""
    check_traffic(traffic)
    check_gaps(traffic, closings)


def check_measure(value):
    """Raise InvalidMeasure unless a value is a measure."""
    if not is_measure(value):
        raise InvalidMeasure("a measure is items, weight, age, kinds or marks")


def are_measures(value):
    """Return whether any value is a list of one to five different measures."""
    if not isinstance(value, list) or not 1 <= len(value) <= len(MEASURES):
        return False
    return all([is_measure(measure) for measure in value]) and len(set(value)) == len(value)


def explains(traffic, rule, closings):
    """Return whether the closings from 0 by a rule are exactly the told ones."""
    nexts = nexts_of(traffic, rule)
    check_gaps(traffic, closings)
    return closings_from(nexts, 0) == closings


def batches_to(closings):
    """Return the list of the batches (start, end) that end at told closings."""
    return list(zip([0, *closings], closings))


def open_stretches(traffic, closings):
    """Return the list of the stretches that no goal may reach: batches without their last items, and the rest."""
    found = [(start, end - 1) for start, end in batches_to(closings) if end - start >= 2]
    start = rest_start(closings)
    if start < len(traffic):
        found.append((start, len(traffic)))
    return found


def all_measures(traffic, stretches):
    """Return the list of the measures of some stretches."""
    return [measured(traffic[start:end]) for start, end in stretches]


def amounts_of(found, measure):
    """Return the list of one measure out of each of the measures of some stretches."""
    place = MEASURES.index(measure)
    return [amounts[place] for amounts in found]


def least_bound(amounts):
    """Return the least bound that is greater than all of the amounts."""
    return 1 + max(amounts, default=0)


def bounds_between(open_amounts, amounts):
    """Return the bounds (least, greatest) above the first amounts and up to all of the others, or None."""
    least = least_bound(open_amounts)
    greatest = min(amounts, default=None)
    if greatest is not None and greatest < least:
        return None
    return (least, greatest)


def goal_range(traffic, closings, measure):
    """Return the least and the greatest bound with which a goal of one measure explains the closings, or None."""
    check_told(traffic, closings)
    check_measure(measure)
    opened = all_measures(traffic, open_stretches(traffic, closings))
    reached = all_measures(traffic, batches_to(closings))
    return bounds_between(amounts_of(opened, measure), amounts_of(reached, measure))


def cap_range(traffic, closings, measure):
    """Return the least and the greatest bound with which a cap of one measure explains the closings, or None."""
    check_told(traffic, closings)
    check_measure(measure)
    if closings and closings[-1] == len(traffic):
        return None
    batches = batches_to(closings)
    # A single item may reach the cap by itself.
    stretches = [*batches, (rest_start(closings), len(traffic))]
    opened = all_measures(traffic, [(start, end) for start, end in stretches if end - start >= 2])
    reached = all_measures(traffic, [(start, end + 1) for start, end in batches])
    return bounds_between(amounts_of(opened, measure), amounts_of(reached, measure))


def least_goals(traffic, closings, measures):
    """Return a dict from each measure to its least bound, with which any of them as the goal explains the closings."""
    check_told(traffic, closings)
    if not are_measures(measures):
        raise InvalidMeasure("measures are a list of one to five different ones")
    opened = all_measures(traffic, open_stretches(traffic, closings))
    bounds = {measure: least_bound(amounts_of(opened, measure)) for measure in measures}
    batches = batches_to(closings)
    for batch, amounts in zip(batches, all_measures(traffic, batches)):
        if not any([amounts[MEASURES.index(measure)] >= bounds[measure] for measure in measures]):
            raise Unexplained(batch)
    return bounds


def check_batch(closings, value):
    """Raise InvalidStretch unless a value is one of the batches that end at told closings, as a tuple."""
    if not isinstance(value, tuple) or not all([is_within(gap, 0) for gap in value]):
        raise InvalidStretch("a batch is a tuple of two gaps")
    if value not in batches_to(closings):
        raise InvalidStretch("the stretch is none of the batches")


def open_stretch(traffic, closings, batch, measure):
    """Return a stretch that must stay open and whose measure is at least that of a batch, or None."""
    check_told(traffic, closings)
    check_batch(closings, batch)
    check_measure(measure)
    place = MEASURES.index(measure)
    least = measured(traffic[batch[0]:batch[1]])[place]
    for start, end in open_stretches(traffic, closings):
        if measured(traffic[start:end])[place] >= least:
            return (start, end)
    return None
