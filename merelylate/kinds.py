"""What kind of value something is, whatever was passed."""


def is_within(value, low, high):
    """Whether a value is an integer from low to high."""
    # Python counts True and False as integers; the package does not.
    return isinstance(value, int) and not isinstance(value, bool) and low <= value <= high


def is_tuple(value, low, high):
    """Whether a value is a tuple of low to high things."""
    return isinstance(value, tuple) and low <= len(value) <= high


def is_ascending(row):
    """Whether each thing in a list or tuple is less than the one behind it."""
    return all([row[at - 1] < row[at] for at in range(1, len(row))])
