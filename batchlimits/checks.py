"""What the other files need to judge integers."""

GREATEST = 10 ** 30


def is_within(value, least, greatest=None):
    """Return whether any value is an integer from least to greatest, or from least on if greatest is None."""
    # To Python, True and False are integers, too.
    if not isinstance(value, int) or isinstance(value, bool):
        return False
    return value >= least and (greatest is None or value <= greatest)
