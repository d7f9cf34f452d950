"""Edits, each of which exchanges a word of a text for another one."""

from anchoredits.errors import InvalidNew, InvalidOld, InvalidPart, TooMany
from anchoredits.letters import is_text
from anchoredits.limits import MAX_PARTS, MAX_WORD


def places(text, word):
    """All indexes at which the word begins in the text, ascending."""
    found = []
    place = text.find(word)
    while place >= 0:
        found.append(place)
        # One letter further, not one word, because places may overlap.
        place = text.find(word, place + 1)
    return found


def is_new(value):
    """Whether any value can be put into a text by an edit."""
    return is_text(value) and len(value) <= MAX_WORD


def is_old(value):
    """Whether any value can be looked for by an edit."""
    return is_new(value) and value != ""


def is_part(value):
    """Whether any value is a tuple (old, new)."""
    return isinstance(value, tuple) and len(value) == 2 and is_old(value[0]) and is_new(value[1])


def check_words(old, new):
    """Raise the first error that is due for the words of an edit."""
    if not is_old(old):
        raise InvalidOld(old)
    if not is_new(new):
        raise InvalidNew(new)


def check_parts(parts):
    """Raise the first error that is due for the parts of an AtOnce."""
    olds = []
    for index, part in enumerate(parts):
        if not is_part(part) or part[0] in olds:
            raise InvalidPart(index)
        olds.append(part[0])
    if len(parts) > MAX_PARTS:
        raise TooMany(MAX_PARTS)


class Edit:
    """The base of all edits."""

    # The same number as MAX_WORD: the value of a class cannot be a name.
    MOST = 40


# Each edit has all its methods itself, although four of them read alike:
# no edit may get a method of the interface from a base class.


class Once(Edit):
    """Exchanges old, which has exactly one place, for new."""

    def __init__(self, old, new):
        check_words(old, new)
        self._old = old
        self._new = new

    @property
    def old(self):
        return self._old

    @property
    def new(self):
        return self._new

    def __eq__(self, other):
        return isinstance(other, Once) and self._old == other._old and self._new == other._new


class First(Edit):
    """Exchanges old at its first place for new."""

    def __init__(self, old, new):
        check_words(old, new)
        self._old = old
        self._new = new

    @property
    def old(self):
        return self._old

    @property
    def new(self):
        return self._new

    def __eq__(self, other):
        return isinstance(other, First) and self._old == other._old and self._new == other._new


class Perhaps(Edit):
    """Exchanges old, which has at most one place, for new."""

    def __init__(self, old, new):
        check_words(old, new)
        self._old = old
        self._new = new

    @property
    def old(self):
        return self._old

    @property
    def new(self):
        return self._new

    def __eq__(self, other):
        return isinstance(other, Perhaps) and self._old == other._old and self._new == other._new


class Every(Edit):
    """Exchanges old for new wherever it stands, from left to right."""

    def __init__(self, old, new):
        check_words(old, new)
        self._old = old
        self._new = new

    @property
    def old(self):
        return self._old

    @property
    def new(self):
        return self._new

    def __eq__(self, other):
        return isinstance(other, Every) and self._old == other._old and self._new == other._new


class AtOnce(Edit):
    """Exchanges several olds, each of which has exactly one place, at the same time."""

    def __init__(self, *parts):
        check_parts(parts)
        self._parts = parts

    @property
    def parts(self):
        return self._parts

    def __eq__(self, other):
        return isinstance(other, AtOnce) and self._parts == other._parts
