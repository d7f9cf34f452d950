"""Values and plain ways to compute them that several tests use."""

from anchoredits.edits import AtOnce
from anchoredits.programs import Program

LETTERS = "\n" + "".join(chr(code) for code in range(32, 127) if chr(code) != "%")

NO_LETTERS = ["%", "\t", "\r", "\x00", "\x0b", "\x1f", "\x7f", "\x80", "\xa0", "\xe9", "\u2028", "\U0001f600"]

NO_STRINGS = [
    None, True, False, 0, 1, -1, 40, 10 ** 59, b"a", b"",
    [], ["a"], ["a", "b"], [None], {}, {"a": "b"}, {"a": ["b"]},
    (), ("a",), ("a", "b"), ("a", "b", "c"), (("a", "b"),), ([[[[[[[1]]]]]]],),
]

# Strings in which at least one character is no letter.
NO_TEXTS = [
    before + character + behind
    for character in NO_LETTERS
    for before in ("", "ab")
    for behind in ("", "cd")
]


def words_over(letters, most):
    """All words of these letters with at most so many letters, the shortest first."""
    words = [""]
    last = [""]
    for _ in range(most):
        last = [word + letter for word in last for letter in letters]
        words += last
    return words


def raised(test, error, action, *args, **names):
    """The error of this very class that a call raises."""
    with test.assertRaises(error) as caught:
        action(*args, **names)
    test.assertIs(type(caught.exception), error)
    return caught.exception


def by_number(texts):
    """Texts in the order of promise 3: those with fewer letters first, then ascending."""
    return sorted(texts, key=lambda text: (len(text), text))


def begins_at(text, word):
    """All places of a word in a text, found one by one."""
    return [place for place in range(len(text)) if text[place:place + len(word)] == word]


def naive_at_once(parts, text):
    """The text behind an AtOnce with these parts, or None."""
    found = []
    for old, new in parts:
        if len(begins_at(text, old)) != 1:
            return None
        found.append((begins_at(text, old)[0], old, new))
    found.sort()
    for left, right in zip(found, found[1:]):
        if left[0] + len(left[1]) > right[0]:
            return None
    for place, old, new in reversed(found):
        text = text[:place] + new + text[place + len(old):]
    return text


def naive_edit(edit, text):
    """The text behind an edit, or None, as promise 12 tells it."""
    kind = type(edit).__name__
    if kind == "AtOnce":
        return naive_at_once(edit.parts, text)
    number = len(begins_at(text, edit.old))
    if kind == "Once":
        return text.replace(edit.old, edit.new) if number == 1 else None
    if kind == "Perhaps":
        return text.replace(edit.old, edit.new) if number <= 1 else None
    if kind == "First":
        return text.replace(edit.old, edit.new, 1) if number > 0 else None
    told, place = "", 0
    while place < len(text):
        if text.startswith(edit.old, place):
            told += edit.new
            place += len(edit.old)
        else:
            told += text[place]
            place += 1
    return told if number > 0 else None


def naive_outcome(program, text):
    """The text behind a program, or None."""
    for edit in program.edits:
        text = naive_edit(edit, text)
        if text is None:
            return None
    return text


def random_edits(chance, letters, kinds):
    """Up to four edits of short words of these letters."""
    def word(least, most):
        return "".join(chance.choice(letters) for _ in range(chance.randint(least, most)))

    edits = []
    for _ in range(chance.randint(0, 4)):
        kind = chance.choice(kinds)
        if kind is AtOnce:
            parts = {word(1, 3): word(0, 3) for _ in range(chance.randint(0, 3))}
            edits.append(AtOnce(*parts.items()))
        else:
            edits.append(kind(word(1, 3), word(0, 3)))
    return edits


def random_programs(chance, letters, number, kinds):
    """So many programs that are fit for questions for every text, if none of the kinds is Every."""
    told = []
    while len(told) < number:
        program = Program(*random_edits(chance, letters, kinds))
        if len("".join(program.olds)) <= 8 and len("".join(program.news)) <= 12:
            told.append(program)
    return told
