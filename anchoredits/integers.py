"""Which values are integers, and tuples of them."""


def is_integer(value):
    """Whether any value is an integer."""
    return isinstance(value, int) and not isinstance(value, bool)


def is_integer_in(value, low, high):
    """Whether any value is an integer from low to high, both included."""
    return is_integer(value) and low <= value <= high


def is_grid(value, height, width):
    """Whether any value is a tuple of so many tuples, each of so many integers."""
    if not isinstance(value, tuple) or len(value) != height:
        return False
    for row in value:
        if not isinstance(row, tuple) or len(row) != width or not all([is_integer(entry) for entry in row]):
            return False
    return True
