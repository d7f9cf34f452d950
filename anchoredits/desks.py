"""Desks, to which rows say what is to be done."""

from anchoredits.anchors import windows
from anchoredits.compare import parted
from anchoredits.edits import places
from anchoredits.errors import InvalidRow, NoFile, Unreadable
from anchoredits.exchanges import cheapest, cost_of
from anchoredits.folders import Folder
from anchoredits.limits import MAX_TIMES
from anchoredits.longs import run_long
from anchoredits.reading import (
    Reader, long_of, program_of, take_literal, take_long, take_name, take_number, take_program,
)
from anchoredits.texts import write_literal

# Letters of a text whose exchanges are looked for.
MOST_EXCHANGED = 20


def take_word(reader):
    """Read a literal of a text with a letter."""
    text = take_literal(reader)
    if text == "":
        reader.refuse()
    return text


def take_short(reader):
    """Read a literal of a text that is not too long for exchanges."""
    text = take_literal(reader)
    if len(text) > MOST_EXCHANGED:
        reader.refuse()
    return text


def take_count(reader):
    """Read an integer that is not too great."""
    number = take_number(reader)
    if number > MAX_TIMES:
        reader.refuse()
    return number


def take_bar(reader):
    """Read what stands between two arguments."""
    reader.take("|")


def is_empty_next(reader):
    """Whether an empty program or long text stands here."""
    return reader.is_at_end() or reader.is_next(" | ")


def take_any_program(reader):
    """Read a program, perhaps the empty one."""
    return [] if is_empty_next(reader) else take_program(reader)


def take_any_long(reader):
    """Read a long text, perhaps the empty one."""
    return [] if is_empty_next(reader) else take_long(reader)


TAKERS = {
    "name": take_name, "text": take_literal, "word": take_word, "short": take_short, "count": take_count,
    "|": take_bar, "program": take_any_program, "long": take_any_long,
}

# What stands behind the first word of a row, in each of its forms.
FORMS = {
    "write": (("name", "text"),),
    "remove": (("name",),),
    "apply": (("name", "program"),),
    "undo": ((), ("count",)),
    "redo": ((), ("count",)),
    "files": ((),),
    "show": (("name",),),
    "run": (("text", "|", "program"),),
    "places": (("text", "|", "word"),),
    "parted": (("program", "|", "program"),),
    "windows": (("text", "count", "count"),),
    "cost": (("short", "|", "short"),),
    "long": (("long", "|", "program"),),
    "count": (("long", "|", "text"),),
}


def take_row(reader):
    """(word, form, told): the first word of a row, the form of what stands behind it, and what is read there."""
    word = take_name(reader)
    if word not in FORMS:
        reader.refuse()
    # The shorter form is the one of a row that ends with its word.
    form = FORMS[word][0] if reader.is_at_end() else FORMS[word][-1]
    told = []
    for kind in form:
        reader.take(" ")
        taker = TAKERS[kind]
        told.append(taker(reader))
    if not reader.is_at_end():
        reader.refuse()
    return word, form, told


def read_row(row):
    """(is_tried, word, form, told): what take_row tells, and whether it is only tried; InvalidRow for other values."""
    try:
        reader = Reader(row)
        is_tried = reader.is_next("try ")
        if is_tried:
            reader.take("try ")
        word, form, told = take_row(reader)
    except Unreadable:
        raise InvalidRow(row)
    return is_tried, word, form, told


def made_of(form, told):
    """The arguments that are told, from left to right."""
    arguments = []
    for kind, value in zip(form, told):
        if kind == "program":
            arguments.append(program_of(value))
        elif kind == "long":
            arguments.append(long_of(value))
        elif kind != "|":
            arguments.append(value)
    return arguments


def say_write(folder, name, text):
    folder.write(name, text)
    return "ok"


def say_remove(folder, name):
    folder.remove(name)
    return "ok"


def say_apply(folder, name, program):
    folder.apply({name: program})
    return "ok"


def say_undo(folder, count=1):
    folder.undo(count)
    return "ok"


def say_redo(folder, count=1):
    folder.redo(count)
    return "ok"


def say_files(folder):
    return " ".join(list(folder.files))


def say_show(folder, name):
    files = folder.files
    if name not in files:
        raise NoFile(name)
    return write_literal(files[name])


def say_run(_, text, program):
    return write_literal(program.run(text))


def say_places(_, text, word):
    return " ".join([str(place) for place in places(text, word)])


def say_parted(_, one, other):
    text = parted(one, other)
    return "" if text is None else write_literal(text)


def say_windows(_, text, first, last):
    return "\n".join([f"{begin} {end}" for begin, end in windows(text, first, last)])


def say_cost(_, one, other):
    exchange = cheapest(one, other)
    return "" if exchange is None else str(cost_of(exchange))


def say_long(_, long, program):
    return str(run_long(program, long).length)


def say_count(_, long, word):
    return str(long.count(word))


# What answers a row; an empty answer is still without what stands in its place.
ANSWERS = {
    "write": say_write, "remove": say_remove, "apply": say_apply, "undo": say_undo, "redo": say_redo,
    "files": say_files, "show": say_show, "run": say_run, "places": say_places, "parted": say_parted,
    "windows": say_windows, "cost": say_cost, "long": say_long, "count": say_count,
}


def answered(folder, word, arguments):
    """What a row answers that says a word with these arguments."""
    action = ANSWERS[word]
    told = action(folder, *arguments)
    return "-" if told == "" else told


class Desk:
    """A desk with a folder, at first without files."""

    def __init__(self):
        self._folder = Folder({})

    @property
    def folder(self):
        return self._folder

    def say(self, row):
        """Do what a row says; its answer, a text."""
        is_tried, word, form, told = read_row(row)
        arguments = made_of(form, told)
        if is_tried:
            return self._folder.explore(lambda folder: answered(folder, word, arguments))
        return answered(self._folder, word, arguments)
