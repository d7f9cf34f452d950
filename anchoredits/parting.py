"""What two machines make of the same texts.

A lead is a pair of texts of which at least one is empty: what the first machine has written more than the second one,
and what the second one has written more. None stands for what does not match, whatever follows.
"""

from anchoredits.blocks import classes_of
from anchoredits.cores import endings_of, letters_written, rows_written, words_read
from anchoredits.tables import least_table

# What comes of a text: which of two machines are right for it, and whether with one result.
NEITHER = 0
FIRST_ONLY = 1
SECOND_ONLY = 2
ALIKE = 3
UNLIKE = 4


def lead_of(one, other):
    """The lead behind two texts that are written."""
    if one.startswith(other):
        return one[len(other):], ""
    if other.startswith(one):
        return "", other[len(one):]
    return None


def lead_behind(lead, one, other):
    """The lead behind a lead, when each machine writes a text."""
    return None if lead is None else lead_of(lead[0] + one, lead[1] + other)


def classes_for(one, other, texts):
    """Classes of the letters that two tables read.

    A letter that they write, or that one of the texts has, is alone, so that it can be told from all others.
    """
    alone = letters_written(one) + letters_written(other) + [letter for text in texts for letter in text]
    return classes_of(words_read(one) + words_read(other) + alone)


def letters_not_copied(table):
    """The letters of all moves that do not write the letter itself in the end."""
    return [letter for _, moves in table[1] for letters, _, _, copies in moves if not copies for letter in letters]


def exact_classes(one, other):
    """Classes of the letters that two tables read, such that one letter of a class can stand for all of it.

    Two letters that do the same are still two letters: if they are not copied, texts that differ in them may have one
    result, or they may differ from what another machine has copied. So a letter that some move does not copy is alone.
    All others are copied by both machines as soon as they are read: so they stand in no lead.
    """
    return classes_for(one, other, letters_not_copied(one) + letters_not_copied(other))


def comes_of(ending, other_ending, lead):
    """What comes of a text that ends with these endings behind a lead."""
    if ending is None:
        return NEITHER if other_ending is None else SECOND_ONLY
    if other_ending is None:
        return FIRST_ONLY
    return ALIKE if lead_behind(lead, ending, other_ending) == ("", "") else UNLIKE


def view_of(one, other):
    """(classes, rows, endings, other rows, other endings): two least tables, told by the same classes.

    Behind a missing move stands a state that leads nowhere, the last one.
    """
    classes = exact_classes(one, other)
    rows, endings = [*rows_written(one, classes), {}], [*endings_of(one), None]
    other_rows, other_endings = [*rows_written(other, classes), {}], [*endings_of(other), None]
    return classes, rows, endings, other_rows, other_endings


def state_behind(view, state, index):
    """The state (state, state, lead) of both machines behind a letter of a class."""
    _, rows, _, other_rows, _ = view
    move, other_move = rows[state[0]].get(index), other_rows[state[1]].get(index)
    if move is None or other_move is None:
        # Where one machine is lost, it does not matter what the other one writes.
        left = len(rows) - 1 if move is None else move[0]
        right = len(other_rows) - 1 if other_move is None else other_move[0]
        return left, right, None
    return move[0], other_move[0], lead_behind(state[2], move[1], other_move[1])


def comes_of_state(view, state):
    """What comes of a text that leads both machines to a state."""
    return comes_of(view[2][state[0]], view[4][state[1]], state[2])


def alike_table(one, other):
    """The least table of the set of the texts for which two machines, told by least tables, have one result."""
    view = view_of(one, other)
    states = [(0, 0, lead_of(one[0], other[0]))]
    numbers = {states[0]: 0}
    told = []
    while len(told) < len(states):
        row = {}
        for index in range(len(view[0])):
            behind = state_behind(view, states[len(told)], index)
            if behind[2] is None:
                continue
            if behind not in numbers:
                numbers[behind] = len(numbers)
                states.append(behind)
            row[index] = numbers[behind]
        told.append(row)
    return least_table(view[0], [comes_of_state(view, state) == ALIKE for state in states], told)


def first_where(one, other, codes):
    """The first text of which one of these codes comes for two machines, told by least tables; or None.

    What comes of a text for which none of them is right is not among the codes.
    """
    view = view_of(one, other)
    states = [(0, 0, lead_of(one[0], other[0]))]
    texts = {states[0]: ""}
    done = 0
    while done < len(states):
        state = states[done]
        if comes_of_state(view, state) in codes:
            return texts[state]
        for index, letters in enumerate(view[0]):
            behind = state_behind(view, state, index)
            if behind not in texts:
                # The classes ascend: so of several texts of one length the least comes first.
                texts[behind] = texts[state] + letters[0]
                states.append(behind)
        done += 1
    return None
