"""For each gap of a traffic the least end for which the stretch from there reaches a condition.

Where there is no such end, not from gap n either, it is n + 1: later than every gap. The ends never become earlier
from one gap to the next, so they are all found by two marks that only move forward.
"""


def sum_ends(amounts, bound):
    """Return for each start the least end for which the amounts from start to end - 1 add up to the bound."""
    many = len(amounts)
    ends = []
    end = total = 0
    for amount in amounts:
        while total < bound and end < many:
            total += amounts[end]
            end += 1
        ends.append(end if total >= bound else many + 1)
        total -= amount
    return ends


def kind_ends(kinds, bound):
    """Return for each start the least end for which so many different kinds stand from start to end - 1."""
    many = len(kinds)
    ends = []
    end = 0
    counts = {}
    for kind in kinds:
        while len(counts) < bound and end < many:
            counts[kinds[end]] = counts.get(kinds[end], 0) + 1
            end += 1
        ends.append(end if len(counts) >= bound else many + 1)
        counts[kind] -= 1
        if counts[kind] == 0:
            del counts[kind]
    return ends


def limit_ends(traffic, measure, bound):
    """Return for each start the least end for which the stretch reaches a limit; the last starts may be left out."""
    many = len(traffic)
    if measure == "items":
        return list(range(bound, many + 1))
    if measure == "weight":
        return sum_ends([item[1] for item in traffic], bound)
    if measure == "age":
        # The pause of the first item lies ahead of the stretch, so all pauses move by one place.
        return [end + 1 for end in sum_ends([item[0] for item in traffic[1:]], bound)]
    if measure == "kinds":
        return kind_ends([item[2] for item in traffic], bound)
    return sum_ends([item[3] for item in traffic], bound)


def first_ends(traffic, condition):
    """Return for each gap the least end for which the stretch from it reaches what is known to be a condition."""
    word, rest = condition
    if word == "any":
        columns = [first_ends(traffic, part) for part in rest]
        return [min(ends) for ends in zip(*columns)]
    if word == "all":
        columns = [first_ends(traffic, part) for part in rest]
        return [max(ends) for ends in zip(*columns)]
    ends = limit_ends(traffic, word, rest)
    return ends + [len(traffic) + 1] * (len(traffic) + 1 - len(ends))
