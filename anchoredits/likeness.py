"""Papers that show that two machines do the same for every text.

A demand is a tuple (state, other state, lead): what must be shown of the states behind a letter, None for a missing
move; then the lead is None, too. Leads are told in parting.py.
"""

from anchoredits.blocks import classes_of, leading
from anchoredits.cores import ITSELF, arrows_behind, endings_of, rows_written, words_read
from anchoredits.integers import is_integer_in
from anchoredits.letters import is_text
from anchoredits.parting import ALIKE, NEITHER, classes_for, comes_of, lead_behind, lead_of


def dead_states(table):
    """All states from which no ending can be reached."""
    endings = endings_of(table)
    goals = [state for state, ending in enumerate(endings) if ending is not None]
    leads = leading(len(endings), arrows_behind(rows_written(table, classes_of(words_read(table)))), goals)
    return tuple([state for state, is_alive in enumerate(leads) if not is_alive])


def row_told(state, other_state, lead):
    """The row of a paper that tells a lead."""
    which = 0 if lead[1] == "" else 1
    return (state, other_state, which, lead[which])


def demands(moves, other_moves, lead):
    """What must be shown behind two states with these moves, and a lead."""
    told = []
    for index in moves:
        if index in other_moves:
            left, right = moves[index], other_moves[index]
            told.append((left[0], right[0], lead_behind(lead, left[1], right[1])))
        else:
            told.append((moves[index][0], None, None))
    return told + [(None, other_moves[index][0], None) for index in other_moves if index not in moves]


def are_dead(demand, dead, others):
    """Whether a demand is met by states behind which no text is right."""
    return (demand[0] is None or demand[0] in dead) and (demand[1] is None or demand[1] in others)


def likeness(one, other):
    """A paper that shows that two tables do the same for every text, None if they do not."""
    classes = classes_for(one, other, [])
    rows, other_rows = rows_written(one, classes), rows_written(other, classes)
    endings, other_endings = endings_of(one), endings_of(other)
    dead, others = dead_states(one), dead_states(other)
    waiting = [(0, 0, lead_of(one[0], other[0]))]
    leads = {}
    while waiting:
        demand = waiting.pop()
        if are_dead(demand, dead, others):
            continue
        left, right, lead = demand
        # What depends on the letter that was read is another lead for each letter; but where some text is right behind
        # two states, only one lead can be borne there.
        if lead is None or ITSELF in lead[0] + lead[1]:
            return None
        if (left, right) in leads:
            if leads[left, right] != lead:
                return None
            continue
        if comes_of(endings[left], other_endings[right], lead) not in (ALIKE, NEITHER):
            return None
        leads[left, right] = lead
        waiting.extend(demands(rows[left], other_rows[right], lead))
    return (tuple([row_told(left, right, leads[left, right]) for left, right in leads]), dead, others)


def is_row(value, number, other_number):
    """Whether any value is a row of a paper for tables with so many states."""
    if not isinstance(value, tuple) or len(value) != 4:
        return False
    if not is_integer_in(value[0], 0, number - 1) or not is_integer_in(value[1], 0, other_number - 1):
        return False
    return is_integer_in(value[2], 0, 1) and is_text(value[3]) and (value[2] == 0 or value[3] != "")


def are_indexes(value, number):
    """Whether any value is a tuple of indexes of so many states."""
    return isinstance(value, tuple) and all([is_integer_in(index, 0, number - 1) for index in value])


def is_paper(value, number, other_number):
    """Whether any value has the form of a paper for tables with so many states."""
    if not isinstance(value, tuple) or len(value) != 3 or not isinstance(value[0], tuple):
        return False
    if not all([is_row(row, number, other_number) for row in value[0]]):
        return False
    return are_indexes(value[1], number) and are_indexes(value[2], other_number)


def lead_nowhere(table, states):
    """Whether no text is right behind these states, by their moves among each other."""
    chosen = {state: True for state in states}
    for state in chosen:
        ending, moves = table[1][state]
        if ending is not None or any([move[1] not in chosen for move in moves]):
            return False
    return True


def is_met(demand, shown, dead, others):
    """Whether rows that are shown, or states behind which no text is right, meet a demand."""
    left, right, lead = demand
    return are_dead(demand, dead, others) or (lead is not None and row_told(left, right, lead) in shown)


def is_likeness(one, other, value):
    """Whether any value is a right paper for two tables."""
    if not is_paper(value, len(one[1]), len(other[1])):
        return False
    if not lead_nowhere(one, value[1]) or not lead_nowhere(other, value[2]):
        return False
    shown = {row: True for row in value[0]}
    dead, others = {state: True for state in value[1]}, {state: True for state in value[2]}
    if not is_met((0, 0, lead_of(one[0], other[0])), shown, dead, others):
        return False
    classes = classes_for(one, other, [row[3] for row in shown])
    rows, other_rows = rows_written(one, classes), rows_written(other, classes)
    for left, right, which, text in shown:
        lead = (text, "") if which == 0 else ("", text)
        if comes_of(one[1][left][0], other[1][right][0], lead) not in (ALIKE, NEITHER):
            return False
        for demand in demands(rows[left], other_rows[right], lead):
            if not is_met(demand, shown, dead, others):
                return False
    return True
