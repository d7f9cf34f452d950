"""Machines one after the other, and sets of texts ahead of machines and behind them.

Operators and properties call these functions: so each one changes only what it has made itself.
"""

from anchoredits.blocks import classes_of, homes_of
from anchoredits.cores import NEVER, endings_of, fed, least_machine, rows_written, words_read
from anchoredits.tables import least_of


def ending_behind(ending, endings, rows, homes, state):
    """What is written in the end if an ending is read from a state on, or None."""
    if ending is None:
        return None
    step = fed(rows, homes, state, ending, 0)
    if step is None or endings[step[0]] is None:
        return None
    return step[1] + endings[step[0]]


def composed(one, other):
    """The least table of the machine that does what the other does with the results of the first one."""
    classes = classes_of(words_read(one) + words_read(other))
    homes = homes_of(classes)
    endings, rows = endings_of(one), rows_written(one, classes)
    other_endings, other_rows = endings_of(other), rows_written(other, classes)
    begun = fed(other_rows, homes, 0, one[0], 0)
    if begun is None:
        return NEVER
    pairs = [(0, begun[0])]
    numbers = {pairs[0]: 0}
    ends = []
    told = []
    while len(told) < len(pairs):
        state, other_state = pairs[len(told)]
        row = {}
        for index in rows[state]:
            target, text = rows[state][index]
            step = fed(other_rows, homes, other_state, text, index)
            if step is None:
                continue
            pair = (target, step[0])
            if pair not in numbers:
                numbers[pair] = len(numbers)
                pairs.append(pair)
            row[index] = (numbers[pair], step[1])
        told.append(row)
        ends.append(ending_behind(endings[state], other_endings, other_rows, homes, other_state))
    return least_machine(classes, other[0] + begun[1], ends, told)


def machine_of_set(table):
    """A table of the machine that is right for the texts of a set alone, and leaves them as they are."""
    states = []
    for is_in, moves in table:
        states.append(("" if is_in else None, tuple([(letters, target, "", True) for letters, target in moves])))
    return ("", tuple(states))


def domain_of(table):
    """The least table of the set of texts for which a machine is right."""
    return least_of([(ending is not None, tuple([move[:2] for move in moves])) for ending, moves in table[1]])


def led_into(table, set_table):
    """The least table of the set of texts for which a machine is right with a result in a set."""
    return domain_of(composed(table, machine_of_set(set_table)))
