"""Which programs are fit for questions for every text."""

from anchoredits.doing import parts_of
from anchoredits.edits import Every
from anchoredits.errors import TooLong, Unbounded
from anchoredits.limits import MAX_NEWS, MAX_OLDS


def check_bounded(edits):
    """Raise Unbounded for the first Every among the edits of a program."""
    for index, edit in enumerate(edits):
        if isinstance(edit, Every):
            raise Unbounded(index)


def check_lengths(edits):
    """Raise TooLong for the olds of these edits together, then for their news."""
    parts = [part for edit in edits for part in parts_of(edit)]
    if sum([len(old) for old, _ in parts]) > MAX_OLDS:
        raise TooLong(MAX_OLDS)
    if sum([len(new) for _, new in parts]) > MAX_NEWS:
        raise TooLong(MAX_NEWS)


def check_fit(*programs):
    """Raise the first error that is due for the first program that is not fit."""
    for program in programs:
        check_bounded(program.edits)
        check_lengths(program.edits)
