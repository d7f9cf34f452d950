"""What programs do for every text."""

from itertools import permutations

from anchoredits.composing import composed, domain_of, led_into
from anchoredits.cores import least_machine_of
from anchoredits.doubling import two_with_one_result
from anchoredits.edits import Once
from anchoredits.errors import NoBack, OutOfRange
from anchoredits.fitness import check_fit
from anchoredits.integers import is_integer_in
from anchoredits.parting import FIRST_ONLY, SECOND_ONLY, UNLIKE, alike_table, first_where
from anchoredits.programs import Program
from anchoredits.scanners import table_of_parts, table_of_program
from anchoredits.sets import TextSet
from anchoredits.tables import IN_BOTH, IN_FIRST_ONLY, combined, first_text

def parted(one, other):
    """The first text for which two programs have unlike outcomes, or None."""
    check_fit(one, other)
    return first_where(table_of_program(one), table_of_program(other), (FIRST_ONLY, SECOND_ONLY, UNLIKE))


def within(one, other):
    """The first text for which one is right and both do not agree, or None."""
    check_fit(one, other)
    return first_where(table_of_program(one), table_of_program(other), (FIRST_ONLY, UNLIKE))


def agreeing(one, other):
    """The set of the texts on which two programs agree."""
    check_fit(one, other)
    return TextSet(least_table=alike_table(table_of_program(one), table_of_program(other)))


def unchanged(program):
    """The set of the texts for which a program is right and which it leaves as they are."""
    return agreeing(program, Program())


def orders(one, other):
    """The sets of the texts for which both orders agree, both are right with unlike results, one alone is right."""
    check_fit(one, other)
    table, other_table = table_of_program(one), table_of_program(other)
    forth, back_again = composed(table, other_table), composed(other_table, table)
    alike = alike_table(forth, back_again)
    right, other_right = domain_of(forth), domain_of(back_again)
    tables = [
        alike,
        combined(combined(right, other_right, IN_BOTH), alike, IN_FIRST_ONLY),
        combined(right, other_right, IN_FIRST_ONLY),
        combined(other_right, right, IN_FIRST_ONLY),
    ]
    return tuple([TextSet(least_table=told) for told in tables])


def with_edits(program, indexes):
    """The program made of the edits with these indexes, in this order."""
    edits = [program.edits[index] for index in indexes]
    return Program(*edits)


def exchangeable(program, index):
    """The first text for which it matters that an edit and the next one are exchanged, or None."""
    check_fit(program)
    if not is_integer_in(index, 0, len(program) - 2):
        raise OutOfRange(index)
    indexes = list(range(len(program)))
    indexes[index], indexes[index + 1] = index + 1, index
    return parted(program, with_edits(program, indexes))


def orders_alike(program):
    """All orders of the edits of a program in which they have its outcome for every text."""
    check_fit(program)
    table = table_of_program(program)
    told = []
    for order in permutations(range(len(program))):
        if table_of_program(with_edits(program, order)) == table:
            told.append(order)
    return told


def needless(program):
    """The indexes of the edits without each of which a program has the same outcome for every text."""
    check_fit(program)
    table = table_of_program(program)
    indexes = list(range(len(program)))
    told = []
    for index in indexes:
        others = [other for other in indexes if other != index]
        if table_of_program(with_edits(program, others)) == table:
            told.append(index)
    return tuple(told)


def back(program):
    """The program that takes a program back."""
    check_fit(program)
    for index, edit in enumerate(program.edits):
        if not isinstance(edit, Once) or edit.new == "":
            raise NoBack(index)
    edits = [Once(edit.new, edit.old) for edit in reversed(program.edits)]
    return Program(*edits)


def unrestored(program):
    """The first text for which a program is right, but cannot be taken back; or None."""
    back_table = table_of_program(back(program))
    table = table_of_program(program)
    restored = domain_of(composed(table, back_table))
    return first_text(combined(domain_of(table), restored, IN_FIRST_ONLY))


def doubled(program):
    """(first, second, result) of two unlike texts with one result, or None."""
    check_fit(program)
    texts = two_with_one_result(table_of_program(program))
    if texts is None:
        return None
    return (texts[0], texts[1], program.run(texts[0]))


def one_edit(program):
    """The (old, new) of a single Once with the outcome of a program for every text, or None."""
    check_fit(program)
    table = table_of_program(program)
    old = first_text(domain_of(table))
    if old is None or old == "":
        return None
    # What is shorter than old, or as long, is not right for the single Once either: so it can only be this one.
    new = program.run(old)
    alone = least_machine_of(table_of_parts(((old, new),), False, False))
    return (old, new) if alone == table else None


def unheld(before, program, after):
    """The first text of a set for which a program is right with a result outside of another set, or None."""
    check_fit(program)
    table = table_of_program(program)
    wrong = combined(domain_of(table), led_into(table, after.table), IN_FIRST_ONLY)
    return first_text(combined(before.table, wrong, IN_BOTH))
