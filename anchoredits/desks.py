"""Desks, to which rows say what is to be done."""

from anchoredits.anchors import windows
from anchoredits.compare import parted
from anchoredits.edits import places
from anchoredits.errors import NoFile
from anchoredits.exchanges import cheapest, cost_of
from anchoredits.folders import Folder
from anchoredits.longs import run_long
from anchoredits.rows import made_of, read_row
from anchoredits.texts import write_literal

# The answers of rows, told by a folder and the arguments of the row.


def say_write(folder, name, text):
    folder.write(name, text)
    return "ok"


def say_remove(folder, name):
    folder.remove(name)
    return "ok"


def say_apply(folder, name, program):
    folder.apply({name: program})
    return "ok"


def say_undo(folder, count=1):
    folder.undo(count)
    return "ok"


def say_redo(folder, count=1):
    folder.redo(count)
    return "ok"


def say_files(folder):
    return " ".join(list(folder.files))


def say_show(folder, name):
    files = folder.files
    if name not in files:
        raise NoFile(name)
    return write_literal(files[name])


def say_run(_, text, program):
    return write_literal(program.run(text))


def say_places(_, text, word):
    return " ".join([str(place) for place in places(text, word)])


def say_parted(_, one, other):
    text = parted(one, other)
    return "" if text is None else write_literal(text)


def say_windows(_, text, first, last):
    return "\n".join([f"{begin} {end}" for begin, end in windows(text, first, last)])


def say_cost(_, one, other):
    exchange = cheapest(one, other)
    return "" if exchange is None else str(cost_of(exchange))


def say_long(_, long, program):
    return str(run_long(program, long).length)


def say_count(_, long, word):
    return str(long.count(word))


# An empty answer is still without what stands in its place.
ANSWERS = {
    "write": say_write, "remove": say_remove, "apply": say_apply, "undo": say_undo, "redo": say_redo,
    "files": say_files, "show": say_show, "run": say_run, "places": say_places, "parted": say_parted,
    "windows": say_windows, "cost": say_cost, "long": say_long, "count": say_count,
}


def answered(folder, word, arguments):
    """What a row answers that says a word with these arguments."""
    action = ANSWERS[word]
    told = action(folder, *arguments)
    return "-" if told == "" else told


class Desk:
    """A desk with a folder, at first without files."""

    def __init__(self):
        self._folder = Folder({})

    @property
    def folder(self):
        return self._folder

    def say(self, row):
        """Do what a row says; its answer, a text."""
        is_tried, word, form, told = read_row(row)
        arguments = made_of(form, told)
        if is_tried:
            return self._folder.explore(lambda folder: answered(folder, word, arguments))
        return answered(self._folder, word, arguments)
