"""The tables of machines that do what edits and programs do.

A scanner is in a state (end, held, found): end is the longest end of what it has read with which an old begins, held
tells how many of its last letters are not written yet, and found are the indexes of the parts that are put.
"""

from anchoredits.composing import composed
from anchoredits.cores import ITSELF
from anchoredits.doing import parts_of
from anchoredits.edits import First, Perhaps
from anchoredits.letters import LETTERS


def tail(text, length):
    """The last letters of a text, so many."""
    return text[len(text) - length:]


def longest_end(text, olds):
    """The longest end of a text with which one of the olds begins."""
    while not any([old.startswith(text) for old in olds]) and text != "":
        text = text[1:]
    return text


def scanned(state, letter, parts):
    """(state, text): the state behind a letter, and what is written; None if the text cannot be right."""
    end, held, found = state
    waiting = tail(end, held) + letter
    end = longest_end(end + letter, [old for old, _ in parts])
    met = [part for part, (old, _) in enumerate(parts) if end.endswith(old)]
    if not met:
        held = min(held + 1, len(end))
        return (end, held, found), waiting[:len(waiting) - held]
    old, new = parts[met[0]]
    # Two olds that end at one place overlap. So do this one and what is put already, if they share a letter.
    if len(met) > 1 or met[0] in found or len(old) > len(waiting):
        return None
    return (end, 0, tuple(sorted([*found, met[0]]))), waiting[:len(waiting) - len(old)] + new


def table_of_parts(parts, stops, may_lack):
    """A table of the machine that puts the new of each of these parts (old, new) in the place of its old.

    Where all are put, it stops to look for olds, or any further place of an old is not right. Where olds are missing,
    the text may lack them, or is not right.
    """
    used = sorted(list({letter: True for old, _ in parts for letter in old}))
    others = "".join([letter for letter in LETTERS if letter not in used])
    numbers = {("", 0, ()): 0}
    met = [("", 0, ())]
    states = []
    while len(states) < len(met):
        state = met[len(states)]
        is_put = len(state[2]) == len(parts)
        moves = []
        for letter in [*used, ITSELF]:
            told = scanned(state, letter, () if stops and is_put else parts)
            if told is None:
                continue
            behind, text = told
            if behind not in numbers:
                numbers[behind] = len(numbers)
                met.append(behind)
            if letter == ITSELF:
                moves.append((others, numbers[behind], text[:-1], True))
            else:
                moves.append((letter, numbers[behind], text, False))
        states.append((tail(state[0], state[1]) if is_put or may_lack else None, tuple(moves)))
    return ("", tuple(states))


def table_of_edit(edit):
    """A table of the machine that does what an edit does. The edit is no Every."""
    return table_of_parts(parts_of(edit), isinstance(edit, First), isinstance(edit, Perhaps))


def table_of_program(program):
    """The least table of the machine that does what a program does. None of its edits is an Every."""
    # The machine that leaves each text as it is.
    table = ("", (("", ((LETTERS, 0, "", True),)),))
    for edit in program.edits:
        table = composed(table, table_of_edit(edit))
    return table
