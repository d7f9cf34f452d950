"""Reading rows that are said to a desk.

A kind is one of the strings in FORMS: what stands there in a row. The reader of a program or of a long text tells only
what is written, so that all of the form is looked at before something is made of it.
"""

from anchoredits.errors import InvalidRow, Unreadable
from anchoredits.limits import MAX_TIMES
from anchoredits.reading import (
    Reader, long_of, program_of, take_literal, take_long, take_name, take_number, take_program,
)

# Letters of a text whose exchanges are looked for.
MOST_EXCHANGED = 20

# What stands behind the first word of a row, in each of its forms.
FORMS = {
    "write": (("name", "text"),),
    "remove": (("name",),),
    "apply": (("name", "program"),),
    "undo": ((), ("count",)),
    "redo": ((), ("count",)),
    "files": ((),),
    "show": (("name",),),
    "run": (("text", "|", "program"),),
    "places": (("text", "|", "word"),),
    "parted": (("program", "|", "program"),),
    "windows": (("text", "count", "count"),),
    "cost": (("short", "|", "short"),),
    "long": (("long", "|", "program"),),
    "count": (("long", "|", "text"),),
}


def take_text(reader, kind):
    """Read a literal: of a text with a letter, of one that is not too long for exchanges, or of any text."""
    text = take_literal(reader)
    if (kind == "word" and text == "") or (kind == "short" and len(text) > MOST_EXCHANGED):
        reader.refuse()
    return text


def take_count(reader):
    """Read an integer that is not too great."""
    number = take_number(reader)
    if number > MAX_TIMES:
        reader.refuse()
    return number


def take_argument(reader, kind):
    """Read what stands in a row; what is read is returned."""
    if kind == "name":
        return take_name(reader)
    if kind == "count":
        return take_count(reader)
    if kind in ("program", "long"):
        if reader.is_at_end() or reader.is_next(" | "):
            return []
        return take_program(reader) if kind == "program" else take_long(reader)
    if kind == "|":
        reader.take(kind)
        return kind
    return take_text(reader, kind)


def take_row(reader):
    """(word, form, told): the first word of a row, the form of what stands behind it, and what is read there."""
    word = take_name(reader)
    if word not in FORMS:
        reader.refuse()
    # The shorter form is the one of a row that ends with its word.
    form = FORMS[word][0] if reader.is_at_end() else FORMS[word][-1]
    told = []
    for kind in form:
        reader.take(" ")
        told.append(take_argument(reader, kind))
    if not reader.is_at_end():
        reader.refuse()
    return word, form, told


def read_row(row):
    """(is_tried, word, form, told): what take_row tells, and whether it is only tried; InvalidRow for other values."""
    try:
        reader = Reader(row)
        is_tried = reader.is_next("try ")
        if is_tried:
            reader.take("try ")
        word, form, told = take_row(reader)
    except Unreadable:
        raise InvalidRow(row)
    return is_tried, word, form, told


def made_of(form, told):
    """The arguments that a row tells, from left to right."""
    arguments = []
    for kind, value in zip(form, told):
        if kind == "program":
            arguments.append(program_of(value))
        elif kind == "long":
            arguments.append(long_of(value))
        elif kind != "|":
            arguments.append(value)
    return arguments
