"""Sets of texts, perhaps infinite."""

from anchoredits.errors import InvalidCount, InvalidTable, InvalidText
from anchoredits.integers import is_integer_in
from anchoredits.letters import LETTERS, is_text
from anchoredits.tables import (
    IN_ANY, IN_BOTH, IN_FIRST_ONLY, IN_ONE_ONLY, NOTHING, combined, count_of, first_text, is_table, leads_to,
    least_of, letters_of, size_of, table_of_all, table_of_having, table_of_texts,
)

# Letters of the texts that are counted.
MOST_COUNTED = 200


def check_texts(texts):
    """Raise the first error that is due for the texts of a set."""
    for text in texts:
        if not is_text(text):
            raise InvalidText(text)


def single_moves(moves):
    """Ascending pairs (letter, target): the moves of a state, a pair for each letter."""
    return sorted([(letter, target) for letters, target in moves for letter in letters])


def reaches(rows, last):
    """For each state whether a text with one letter more than last was told for leads to True."""
    return [any([last[target] for _, target in row]) for row in rows]


class TextSet:
    """A set of texts, told by its least table."""

    # With a least table the set is what that tells; the texts are looked at only without one.
    def __init__(self, *texts, least_table=None):
        if least_table is None:
            check_texts(texts)
            self._table = table_of_texts(texts)
        else:
            self._table = least_table

    @classmethod
    def every(cls):
        """The set of all texts."""
        return cls(least_table=table_of_all(LETTERS))

    @classmethod
    def having(cls, word):
        """The set of all texts in which the word has a place."""
        return cls(least_table=table_of_having(word))

    @classmethod
    def of_table(cls, table):
        """The set that a table tells, least or not."""
        if not is_table(table):
            raise InvalidTable(table)
        return cls(least_table=least_of(table))

    @property
    def table(self):
        return self._table

    @property
    def size(self):
        return size_of(self._table)

    @property
    def least(self):
        return first_text(self._table)

    @property
    def letters(self):
        return letters_of(self._table)

    def __or__(self, other):
        return TextSet(least_table=combined(self._table, other.table, IN_ANY))

    def __and__(self, other):
        return TextSet(least_table=combined(self._table, other.table, IN_BOTH))

    def __sub__(self, other):
        return TextSet(least_table=combined(self._table, other.table, IN_FIRST_ONLY))

    def __eq__(self, other):
        return isinstance(other, TextSet) and self._table == other._table

    def __contains__(self, value):
        return is_text(value) and leads_to(self._table, value)

    def __bool__(self):
        return bool(self._table != NOTHING)

    def is_within(self, other):
        """Whether each text is in the other set, too."""
        return combined(self._table, other.table, IN_FIRST_ONLY) == NOTHING

    def count(self, number, letters):
        """How many texts have so many letters, all among these."""
        if not is_integer_in(number, 0, MOST_COUNTED):
            raise InvalidCount(number)
        return count_of(self._table, number, letters)

    def ordered(self, letters):
        """The texts made of these letters alone, by their numbers of letters, then ascending."""
        table = combined(self._table, table_of_all(letters), IN_BOTH)
        rows = [single_moves(moves) for _, moves in table]
        endless = size_of(table) is None
        # For each number of letters and each state whether such a text leads from there to True.
        reach = [[is_in for is_in, _ in table]]
        # Without end no text is longer than the path through all states.
        while endless or len(reach) <= len(table):
            waiting = [("", 0)] if reach[-1][0] else []
            while waiting:
                text, state = waiting.pop()
                left = len(reach) - 1 - len(text)
                if left == 0:
                    yield text
                    continue
                for letter, target in reversed(rows[state]):
                    if reach[left - 1][target]:
                        waiting.append((text + letter, target))
            reach.append(reaches(rows, reach[-1]))

    def difference(self, other):
        """None for equal sets, otherwise (which, text) of the first text that is in one of them only."""
        text = first_text(combined(self._table, other.table, IN_ONE_ONLY))
        if text is None:
            return None
        return (int(text not in self), text)
