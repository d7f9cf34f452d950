"""Reading what texts write: literals, programs and long texts.

What is read of a program is a list of tuples (word, pairs), one for each edit: pairs are its tuples (old, new). What is
read of a long text is a list of its runs. So all of the form is looked at before something is made of it.
"""

from anchoredits.edits import AtOnce, Every, First, Once, Perhaps
from anchoredits.errors import Unreadable
from anchoredits.letters import LETTERS
from anchoredits.longs import LongText
from anchoredits.names import MOST_LETTERS, NAME_LETTERS
from anchoredits.programs import Program

DIGITS = "0123456789"

# Digits of the times of a run.
MOST_DIGITS = 31

# What a letter behind a backslash stands for.
ESCAPES = {"\\": "\\", '"': '"', "n": "\n"}

WORDS = ("once", "first", "perhaps", "every", "together")


class Reader:
    """Reads a text from left to right. What does not stand there raises Unreadable with the index where it would."""

    def __init__(self, text):
        if not isinstance(text, str):
            raise Unreadable(0)
        self._row = text
        self._reached = 0

    def is_at_end(self):
        """Whether all is read."""
        return self._reached == len(self._row)

    def is_next(self, word):
        """Whether a word follows."""
        return self._row.startswith(word, self._reached)

    def is_next_of(self, letters):
        """Whether one of these letters follows."""
        return not self.is_at_end() and self._row[self._reached] in letters

    def take(self, word):
        """Read a word."""
        for letter in word:
            self.take_one_of(letter)

    def take_one_of(self, letters):
        """Read one of these letters, which is returned."""
        if not self.is_next_of(letters):
            raise Unreadable(self._reached)
        self._reached += 1
        return self._row[self._reached - 1]

    def take_all_of(self, letters, most):
        """Read one of these letters, and as many more as follow, up to so many; they are returned."""
        begin = self._reached
        self.take_one_of(letters)
        while self.is_next_of(letters) and self._reached - begin < most:
            self._reached += 1
        return self._row[begin:self._reached]

    def refuse(self):
        """Raise Unreadable, because what has been read must not stand here."""
        raise Unreadable(self._reached)


def take_literal(reader):
    """Read a literal; the text that it writes is returned."""
    reader.take('"')
    told = []
    while not reader.is_next('"'):
        if reader.is_next("\\"):
            reader.take("\\")
            told.append(ESCAPES[reader.take_one_of('\\"n')])
        else:
            # A newline does not stand in a literal itself; it is the first letter of all.
            told.append(reader.take_one_of(LETTERS[1:]))
    reader.take('"')
    return "".join(told)


def take_number(reader):
    """Read an integer of 1 to 31 digits without leading zeros."""
    if reader.is_next("0"):
        reader.take("0")
        return 0
    return int(reader.take_all_of(DIGITS, MOST_DIGITS))


def take_name(reader):
    """Read a name."""
    return reader.take_all_of(NAME_LETTERS, MOST_LETTERS)


def take_pair(reader):
    """Read an old and a new, with a space ahead of each."""
    reader.take(" ")
    old = take_literal(reader)
    reader.take(" ")
    return (old, take_literal(reader))


def take_edit(reader):
    """Read an edit."""
    # The words of edits have unlike first letters. Without one of these, none can stand here.
    words = [word for word in WORDS if reader.is_next(word[0])]
    if not words:
        reader.refuse()
    reader.take(words[0])
    if words[0] != "together":
        return (words[0], [take_pair(reader)])
    pairs = []
    while reader.is_next(' "'):
        pairs.append(take_pair(reader))
    return (words[0], pairs)


def take_program(reader):
    """Read a program with an edit."""
    told = [take_edit(reader)]
    while reader.is_next(" ; "):
        reader.take(" ; ")
        told.append(take_edit(reader))
    return told


def take_run(reader):
    """Read a run."""
    piece = take_literal(reader)
    reader.take("*")
    return (piece, take_number(reader))


def take_long(reader):
    """Read a long text with a run."""
    told = [take_run(reader)]
    while reader.is_next(" + "):
        reader.take(" + ")
        told.append(take_run(reader))
    return told


def edit_of(word, pairs):
    """The edit that is written with a word and the old and the new of each part."""
    if word == "together":
        return AtOnce(*pairs)
    old, new = pairs[0]
    if word == "once":
        return Once(old, new)
    if word == "first":
        return First(old, new)
    if word == "perhaps":
        return Perhaps(old, new)
    return Every(old, new)


def program_of(told):
    """The program that is written."""
    edits = [edit_of(word, pairs) for word, pairs in told]
    return Program(*edits)


def long_of(told):
    """The long text that is written."""
    return LongText(*told)
