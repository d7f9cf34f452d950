"""Names of files."""

NAME_LETTERS = "abcdefghijklmnopqrstuvwxyz"

# Letters of a name.
MOST_LETTERS = 8


def is_name(value):
    """Whether any value is a word of 1 to 8 letters from a to z."""
    return isinstance(value, str) and 1 <= len(value) <= MOST_LETTERS and value.lstrip(NAME_LETTERS) == ""
