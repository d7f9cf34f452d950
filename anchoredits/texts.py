"""Texts that write texts, programs and long texts."""

from anchoredits.doing import parts_of
from anchoredits.edits import AtOnce, First, Once, Perhaps
from anchoredits.reading import Reader, long_of, program_of, take_literal, take_long, take_program


def write_literal(text):
    """The literal that writes a text."""
    # Backslashes first: those that are put behind are none of the text.
    told = text.replace("\\", "\\\\").replace('"', '\\"').replace("\n", "\\n")
    return '"' + told + '"'


def word_of(edit):
    """The word with which an edit is written."""
    if isinstance(edit, AtOnce):
        return "together"
    if isinstance(edit, Once):
        return "once"
    if isinstance(edit, First):
        return "first"
    return "perhaps" if isinstance(edit, Perhaps) else "every"


def write_edit(edit):
    """The text that writes an edit."""
    words = [write_literal(word) for pair in parts_of(edit) for word in pair]
    return " ".join([word_of(edit), *words])


def write_program(program):
    """The text that writes a program."""
    return " ; ".join([write_edit(edit) for edit in program.edits])


def read_literal(text):
    """The text that a literal writes."""
    reader = Reader(text)
    told = take_literal(reader)
    if not reader.is_at_end():
        reader.refuse()
    return told


def read_program(text):
    """The program that a text writes."""
    reader = Reader(text)
    told = []
    if not reader.is_at_end():
        told = take_program(reader)
    if not reader.is_at_end():
        # No edit follows, nor a part of the last one: so only a beginning of what would stand between can be read.
        reader.take(" ; ")
    return program_of(told)


def read_long(text):
    """The long text that a text writes."""
    reader = Reader(text)
    told = []
    if not reader.is_at_end():
        told = take_long(reader)
    if not reader.is_at_end():
        reader.take(" + ")
    return long_of(told)
