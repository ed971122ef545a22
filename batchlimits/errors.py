"""The errors of the package: each one is a direct subclass of BatchError."""


class BatchError(ValueError):
    """The base of all errors."""


class InvalidItem(BatchError):
    """A value is not an item, or not the number of one."""


class InvalidTraffic(BatchError):
    """A value is not a traffic."""


class InvalidStretch(BatchError):
    """Two gaps are not the start and the end of a stretch."""


class InvalidCondition(BatchError):
    """A value is not a condition."""


class InvalidRule(BatchError):
    """A value is not a rule."""


class InvalidMeasure(BatchError):
    """A value is not a measure, or not a list of measures."""


class InvalidGap(BatchError):
    """A value is not a gap that fits."""


class InvalidGaps(BatchError):
    """Values are not gaps that fit together."""


class InvalidEdit(BatchError):
    """A value is not an edit of the traffic."""


class InvalidPattern(BatchError):
    """A value is not a pattern."""


class InvalidNumber(BatchError):
    """A value is not a number that fits."""


class InvalidCommand(BatchError):
    """A row is not a command of the console."""


class NothingToUndo(BatchError):
    """There is nothing that could be reverted."""


class Blocked(BatchError):
    """There is no plan: all gaps of a stretch at which it could close are joined."""

    def __init__(self, stretch):
        BatchError.__init__(self, f"there is no plan because of the stretch {stretch}")
        self.stretch = stretch


class Unexplained(BatchError):
    """A batch reaches none of the bounds that could explain it."""

    def __init__(self, batch):
        BatchError.__init__(self, f"no bound explains the batch {batch}")
        self.batch = batch


class InvalidText(BatchError):
    """A value is not a text of the kind that is read."""

    def __init__(self, position):
        BatchError.__init__(self, f"the value is no such text, position: {position}")
        self.position = position


class TooLarge(BatchError):
    """A result would go beyond a size."""

    def __init__(self, limit):
        BatchError.__init__(self, f"there would be more than {limit}")
        self.limit = limit
