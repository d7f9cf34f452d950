"""Letters, and the texts that are made of them."""

# All letters, ascending. A percent sign is none.
LETTERS = "\n !\"#$&'()*+,-./0123456789:;<=>?@ABCDEFGHIJKLMNOPQRSTUVWXYZ[\\]^_`abcdefghijklmnopqrstuvwxyz{|}~"


def is_text(value):
    """Whether any value is a string of letters, perhaps empty."""
    # Stripping stops at the first character that is no letter, so only a text leaves nothing.
    return isinstance(value, str) and value.lstrip(LETTERS) == ""
