"""Values that several tests use."""

LETTERS = "\n" + "".join(chr(code) for code in range(32, 127) if chr(code) != "%")

NO_LETTERS = ["%", "\t", "\r", "\x00", "\x0b", "\x1f", "\x7f", "\x80", "\xa0", "\xe9", "\u2028", "\U0001f600"]

NO_STRINGS = [
    None, True, False, 0, 1, -1, 40, 10 ** 59, b"a", b"",
    [], ["a"], ["a", "b"], [None], {}, {"a": "b"}, {"a": ["b"]},
    (), ("a",), ("a", "b"), ("a", "b", "c"), (("a", "b"),), ([[[[[[[1]]]]]]],),
]

# Strings in which at least one character is no letter.
NO_TEXTS = [
    before + character + behind
    for character in NO_LETTERS
    for before in ("", "ab")
    for behind in ("", "cd")
]


def words_over(letters, most):
    """All words of these letters with at most so many letters, the shortest first."""
    words = [""]
    last = [""]
    for _ in range(most):
        last = [word + letter for word in last for letter in letters]
        words += last
    return words
