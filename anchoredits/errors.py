"""All errors of the package.

Each is directly below an error of Python and keeps its fields as attributes.
"""


class InvalidOld(ValueError):
    """An old is not a text of 1 to 40 letters."""

    def __init__(self, value):
        self.value = value


class InvalidNew(ValueError):
    """A new is not a text of at most 40 letters."""

    def __init__(self, value):
        self.value = value


class InvalidText(ValueError):
    """A value is no text."""

    def __init__(self, value):
        self.value = value


class InvalidTable(ValueError):
    """A value tells no set of texts, or no machine."""

    def __init__(self, value):
        self.value = value


class InvalidCount(ValueError):
    """A number of letters is not one from 0 to 200."""

    def __init__(self, value):
        self.value = value


class InvalidSpot(ValueError):
    """An end of a spot does not lie in the text."""

    def __init__(self, value):
        self.value = value


class InvalidHand(ValueError):
    """A value is no hand of a merge, or stands there twice."""

    def __init__(self, value):
        self.value = value


class InvalidFiles(ValueError):
    """A value is not a dict from names to texts."""

    def __init__(self, value):
        self.value = value


class InvalidName(ValueError):
    """A value is no name of a file, or no label."""

    def __init__(self, value):
        self.value = value


class InvalidPart(ValueError):
    """A part of an AtOnce is not as told."""

    def __init__(self, index):
        self.index = index


class InvalidEdit(ValueError):
    """An argument is no edit."""

    def __init__(self, index):
        self.index = index


class InvalidChange(ValueError):
    """A change is none of the text as it is then."""

    def __init__(self, index):
        self.index = index


class InvalidProgram(ValueError):
    """An argument is no program."""

    def __init__(self, index):
        self.index = index


class InvalidRun(ValueError):
    """An argument is no run of a long text."""

    def __init__(self, index):
        self.index = index


class NoExchange(ValueError):
    """A part of an exchange is not as told."""

    def __init__(self, index):
        self.index = index


class NoMirror(ValueError):
    """An edit cannot be mirrored."""

    def __init__(self, index):
        self.index = index


class NoBack(ValueError):
    """An edit cannot be taken back."""

    def __init__(self, index):
        self.index = index


class Unbounded(ValueError):
    """An Every stands where none may stand."""

    def __init__(self, index):
        self.index = index


class Unreadable(ValueError):
    """A text cannot be read further than to the index."""

    def __init__(self, index):
        self.index = index


class InvalidRow(ValueError):
    """A row is of no form that a desk knows."""

    def __init__(self, row):
        self.row = row


class Unlike(ValueError):
    """Two folders have unlike files at the beginning."""

    # Without an own one, values would be taken, and there are no fields to keep them in.
    def __init__(self):
        pass


class NoPlace(LookupError):
    """The old of an edit has a number of places that is not right."""

    def __init__(self, index, number):
        self.index = index
        self.number = number


class Overlap(LookupError):
    """Two olds of an AtOnce overlap in the text."""

    def __init__(self, index):
        self.index = index


class OutOfRange(LookupError):
    """A value is not in the range that is there."""

    def __init__(self, value):
        self.value = value


class NoFile(LookupError):
    """There is no file of this name."""

    def __init__(self, name):
        self.name = name


class NoLabel(LookupError):
    """Nothing is kept under this label."""

    def __init__(self, label):
        self.label = label


class TooMany(OverflowError):
    """There are more things than the limit."""

    def __init__(self, limit):
        self.limit = limit


class TooLong(OverflowError):
    """There are more letters than the limit."""

    def __init__(self, limit):
        self.limit = limit


class NotRight(RuntimeError):
    """The program of a hand is not right for the text."""

    def __init__(self, hand):
        self.hand = hand


class Clash(RuntimeError):
    """Two hands change the same place in unlike ways."""

    def __init__(self, hand, other):
        self.hand = hand
        self.other = other


class FileNotRight(RuntimeError):
    """An edit of a program is not right for a file."""

    def __init__(self, name, index):
        self.name = name
        self.index = index


class Apart(RuntimeError):
    """Two folders cannot be joined in this file."""

    def __init__(self, name):
        self.name = name


class Broken(RuntimeError):
    """A file is not in the set of its guard."""

    def __init__(self, name):
        self.name = name


class Unsafe(RuntimeError):
    """A program leads a text out of the guard of a file."""

    def __init__(self, name, case):
        self.name = name
        self.case = case
