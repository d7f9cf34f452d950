"""Machines that read a text letter by letter, and write its result."""

from anchoredits.composing import composed, domain_of, led_into, machine_of_set
from anchoredits.cores import NEVER, least_machine_of
from anchoredits.errors import InvalidTable
from anchoredits.fitness import check_fit
from anchoredits.letters import is_text
from anchoredits.scanners import table_of_program
from anchoredits.sets import TextSet
from anchoredits.tables import are_moves

# States of a table that is given.
MOST_STATES = 200


def is_state(value, number):
    """Whether any value is a state of a machine with so many states."""
    if not isinstance(value, tuple) or len(value) != 2:
        return False
    ending, moves = value
    if (ending is not None and not is_text(ending)) or not are_moves(moves, 4, number):
        return False
    return all([is_text(text) and isinstance(copies, bool) for _, _, text, copies in moves])


def is_machine(value):
    """Whether any value is a table of a machine."""
    if not isinstance(value, tuple) or len(value) != 2 or not is_text(value[0]):
        return False
    states = value[1]
    if not isinstance(states, tuple) or not 1 <= len(states) <= MOST_STATES:
        return False
    return all([is_state(state, len(states)) for state in states])


def move_for(moves, letter):
    """The move for a letter, or None."""
    for move in moves:
        if letter in move[0]:
            return move
    return None


def passed(table, text):
    """(state, written): the state behind a text, and what is written by then; None if a move is missing."""
    state = 0
    pieces = [table[0]]
    for letter in text:
        move = move_for(table[1][state][1], letter)
        if move is None:
            return None
        _, state, put, copies = move
        pieces.append(put + letter if copies else put)
    return state, "".join(pieces)


class Machine:
    """A machine, told by its least table."""

    def __init__(self, least_table):
        self._table = least_table

    @classmethod
    def of(cls, program):
        """The machine that does what the program does."""
        check_fit(program)
        return cls(table_of_program(program))

    @classmethod
    def of_table(cls, table):
        """The machine that a table tells, least or not."""
        if not is_machine(table):
            raise InvalidTable(table)
        return cls(least_machine_of(table))

    @property
    def table(self):
        return self._table

    @property
    def domain(self):
        return TextSet(least_table=domain_of(self._table))

    def __eq__(self, other):
        return isinstance(other, Machine) and self._table == other._table

    def run(self, text):
        """The result, or None if the text is not right."""
        told = passed(self._table, text)
        if told is None:
            return None
        ending = self._table[1][told[0]][0]
        return None if ending is None else told[1] + ending

    def sure(self, text):
        """The longest text with which the results of all right texts begin that begin with this one, or None."""
        told = passed(self._table, text)
        # In a least table some right text passes each state, but for this one.
        if told is None or self._table == NEVER:
            return None
        return told[1]

    def into(self, texts):
        """The set of all right texts whose results are in a set."""
        return TextSet(least_table=led_into(self._table, texts.table))

    def limited_to(self, texts):
        """The machine that is right for the texts of a set alone."""
        return Machine(composed(machine_of_set(texts.table), self._table))

    def then(self, other):
        """The machine that does what the other does with the result of this one."""
        return Machine(composed(self._table, other.table))
