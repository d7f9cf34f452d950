"""Texts that are too long to be written out."""

from anchoredits.edits import Every, is_old
from anchoredits.errors import InvalidOld, InvalidRun, InvalidText, OutOfRange, TooMany, Unbounded
from anchoredits.integers import is_integer_in
from anchoredits.letters import is_text
from anchoredits.limits import MAX_RUNS, MAX_TIMES
from anchoredits.pieces import first_unlike, length_of, number_of_places, part_of, place_in, rows_of_places, written_out
from anchoredits.strips import origin_behind, runs_behind, strips_of
from anchoredits.tables import led_by

# Letters of a part that is written out.
MOST_WRITTEN = 1000


def is_run(value):
    """Whether any value is a run."""
    return isinstance(value, tuple) and len(value) == 2 and is_old(value[0]) and is_integer_in(value[1], 1, MAX_TIMES)


def check_runs(runs):
    """Raise the first error that is due for the runs of a long text."""
    for index, run in enumerate(runs):
        if not is_run(run):
            raise InvalidRun(index)
    if len(runs) > MAX_RUNS:
        raise TooMany(MAX_RUNS)


class LongText:
    """A text in which pieces stand one behind another, each so many times."""

    # With runs that are made here, of any number and with pieces of any length, those that are passed do not count.
    def __init__(self, *runs, made=None):
        if made is None:
            check_runs(runs)
            self._runs = runs
        else:
            self._runs = made
        self._length = length_of(self._runs)

    @classmethod
    def of(cls, text):
        """The long text with the letters of a text."""
        if not is_text(text):
            raise InvalidText(text)
        return cls(made=((text, 1),) if text != "" else ())

    @property
    def length(self):
        return self._length

    @property
    def runs(self):
        return self._runs

    def __eq__(self, other):
        return isinstance(other, LongText) and first_unlike(self._runs, other._runs) is None

    def __add__(self, other):
        return LongText(made=(*self._runs, *other.runs))

    def letter(self, place):
        """The letter with an index."""
        if not is_integer_in(place, 0, self._length - 1):
            raise OutOfRange(place)
        return written_out(part_of(self._runs, place, place + 1))

    def part(self, first, last):
        """The text of the letters from first to last - 1."""
        if not is_integer_in(first, 0, self._length):
            raise OutOfRange(first)
        if not is_integer_in(last, first, min(self._length, first + MOST_WRITTEN)):
            raise OutOfRange(last)
        return written_out(part_of(self._runs, first, last))

    def difference(self, other):
        """The first index at which both differ, or just one of them has a letter; None for equal ones."""
        return first_unlike(self._runs, other.runs)

    def _rows_of(self, word):
        """Rows of all places of a word; InvalidOld for any value that is none of 1 to 40 letters."""
        if not is_old(word):
            raise InvalidOld(word)
        return rows_of_places(self._runs, word)

    def count(self, word):
        """How many places a word has."""
        return number_of_places(self._rows_of(word))

    def place(self, word, number):
        """The place of a word with a number, in ascending order."""
        rows = self._rows_of(word)
        if not is_integer_in(number, 0, number_of_places(rows) - 1):
            raise OutOfRange(number)
        return place_in(rows, number)


def check_single_every(program):
    """Raise Unbounded for the second Every of a program."""
    indexes = [index for index, edit in enumerate(program.edits) if isinstance(edit, Every)]
    if len(indexes) > 1:
        raise Unbounded(indexes[1])


def led_through(program, long):
    """(runs, strips): the runs of a long text behind a program, and for each edit what it did to the text then."""
    check_single_every(program)
    runs = long.runs
    told = []
    for index, edit in enumerate(program.edits):
        strips = strips_of(edit, index, runs)
        runs = runs_behind(runs, strips)
        told.append(strips)
    return runs, told


def run_long(program, long):
    """The long text behind a program."""
    runs, _ = led_through(program, long)
    return LongText(made=runs)


def origin_long(program, long, place):
    """The index in a long text of a letter of the result, or (edit, part, place) if it was put."""
    runs, told = led_through(program, long)
    if not is_integer_in(place, 0, length_of(runs) - 1):
        raise OutOfRange(place)
    for index in reversed(range(len(told))):
        place = origin_behind(told[index], place)
        if isinstance(place, tuple):
            return (index, *place)
    return place


def states_behind(table, state, piece):
    """(states, again): the states behind no piece, one, two .. of these, until one comes again, and which one does."""
    states = []
    numbers = {}
    while state not in numbers:
        numbers[state] = len(states)
        states.append(state)
        state = led_by(table, state, piece)
    return states, numbers[state]


def wrapped(number, again, length):
    """Which of so many entries tells of a number, if behind the last one the entry again comes again."""
    return number if number < length else again + (number - again) % (length - again)


def may_end(table, state):
    """Whether a text may end in a state, None for a missing one."""
    return state is not None and table[state][0]


def stands_in(long, texts):
    """Whether a set of texts has a long text."""
    table = texts.table
    state = 0
    for piece, times in long.runs:
        if times == 1:
            state = led_by(table, state, piece)
        else:
            states, again = states_behind(table, state, piece)
            state = states[wrapped(times, again, len(states))]
    return may_end(table, state)


def least_period(told, again):
    """The least (start, period) of what is told of each number; behind the last one the entry again comes again."""
    cycle = told[again:]
    period = 1
    while cycle[period:] + cycle[:period] != cycle:
        period += 1
    start = again
    while start > 0 and told[start - 1] == told[wrapped(start - 1 + period, again, len(told))]:
        start -= 1
    return start, period


def times_in(texts, head, piece, tail):
    """(start, period, early, late): how often a piece may stand between head and tail in a text of a set."""
    table = texts.table
    states, again = states_behind(table, led_by(table, 0, head), piece)
    told = [may_end(table, led_by(table, state, tail)) for state in states]
    start, period = least_period(told, again)
    early = [number for number in range(start) if told[number]]
    late = [rest for rest in range(period) if told[wrapped(start + rest, again, len(told))]]
    return (start, period, tuple(early), tuple(late))
