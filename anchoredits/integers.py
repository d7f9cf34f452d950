"""Which values are integers."""


def is_integer_in(value, low, high):
    """Whether any value is an integer from low to high, both included."""
    return isinstance(value, int) and not isinstance(value, bool) and low <= value <= high
