"""What the other files need to judge integers and lists of gaps."""

GREATEST = 10 ** 30


def is_within(value, least, greatest=None):
    """Return whether any value is an integer from least to greatest, or from least on if greatest is None."""
    # To Python, True and False are integers, too.
    if not isinstance(value, int) or isinstance(value, bool):
        return False
    return value >= least and (greatest is None or value <= greatest)


def is_ascending(value, greatest):
    """Return whether any value is a strictly ascending list of gaps from 1 to greatest."""
    if not isinstance(value, list):
        return False
    least = 1
    for gap in value:
        if not is_within(gap, least, greatest):
            return False
        least = gap + 1
    return True
