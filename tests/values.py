"""Values for the tests: traffic, and values of all kinds that arguments may have."""

import random

HUGE = 10 ** 30


def weights(*numbers):
    """Return a traffic of items with these weights."""
    return [(0, weight, "a", False) for weight in numbers]


def ones(many):
    """Return a traffic of so many items that are all alike."""
    return weights(*[1] * many)


def nested_lists(depth):
    value = []
    for _ in range(depth):
        value = [value]
    return value


def nested_tuples(depth):
    value = ()
    for _ in range(depth):
        value = (value,)
    return value


def nested_conditions(depth, parts):
    """Return a value that is like a condition, nested so deep; every level has one part so many times."""
    value = ("items", 3)
    for _ in range(depth):
        value = ("any", [value] * parts)
    return value


class Plain:
    pass


class Equal:
    """An object that says that it is equal to everything."""

    def __eq__(self, other):
        return True


def odd_values():
    """Return values of all kinds, none of which is an item, a limit, a condition or a rule."""
    return [
        None, True, False, 0, 1, 5, -1, HUGE, HUGE + 1, 1.0, 0.5, float("nan"), 1j,
        "", "a", "items", "any", "one two", b"", b"a",
        [], [[]], [None], [0, 1], ["items", 3], (), ((),), (None,), (0, 1), (1, 2, 3, 4),
        {}, {"items": 3}, {0, 1}, frozenset(), ({}, []), ([], {}), ({}, {}, {}, {}), [{}, set()],
        ("any", {}), ("any", ()), ("any", []), ("items", [3]), ([], 3), ("any", [None, None]),
        nested_lists(99), nested_tuples(99),
        nested_conditions(50, 1), nested_conditions(50, 2), nested_conditions(50, 6), nested_conditions(50, 7),
        Plain(), Plain, len, range(3), Ellipsis,
    ]


def random_traffic(source, most=8):
    """Return a short traffic of random items with small numbers."""
    many = source.randrange(most + 1)
    return [random_item(source) for _ in range(many)]


def random_item(source):
    return (source.randrange(4), source.randrange(4), source.choice("abc"), source.random() < 0.5)


def random_condition(source, most=6):
    """Return a random condition with at most so many limits."""
    return condition_with(source, source.randrange(1, most + 1))


def condition_with(source, limits):
    """Return a random condition with exactly so many limits, of bounds from 1 to 5."""
    if limits == 1:
        return (source.choice(("items", "weight", "age", "kinds", "marks")), source.randrange(1, 6))
    cuts = sorted(source.sample(range(1, limits), source.randrange(1, limits)))
    sizes = [end - start for start, end in zip([0] + cuts, cuts + [limits])]
    return (source.choice(("any", "all")), [condition_with(source, size) for size in sizes])


def random_rule(source, most=3):
    """Return a random rule; its goal and its cap may be None, or the same."""
    goal, cap = [source.choice([None, random_condition(source, most), random_condition(source, most)]) for _ in "gc"]
    return (goal, goal if source.random() < 0.1 else cap)


def long_traffic(source):
    """Return a traffic of 40 random items with small numbers and many kinds."""
    letters = "abcdefghijklmnopqrst"
    return [
        (source.randrange(4), source.randrange(4), source.choice(letters), source.random() < 0.5) for _ in range(40)
    ]


def source(seed):
    """Return a source of random numbers that is the same in every run."""
    return random.Random(seed)
