"""Folders: texts with names that are changed."""

from anchoredits.compare import unheld
from anchoredits.doing import text_behind
from anchoredits.errors import (
    Apart, Broken, FileNotRight, InvalidFiles, InvalidName, InvalidText, NoFile, NoLabel, NoPlace, OutOfRange, Overlap,
    TooMany, Unlike, Unsafe,
)
from anchoredits.fitness import check_fit
from anchoredits.hunking import clashing, hunks_between
from anchoredits.integers import is_integer_in
from anchoredits.letters import is_text
from anchoredits.limits import MAX_FILES
from anchoredits.names import is_name
from anchoredits.origins import origins


def are_files(value):
    """Whether any value is a dict from names to texts, and not too many."""
    if not isinstance(value, dict) or len(value) > MAX_FILES:
        return False
    return all([is_name(name) and is_text(value[name]) for name in value])


def ascending(table):
    """A new dict with the same keys, ascending."""
    return {key: table[key] for key in sorted(list(table))}


def is_key(value, table):
    """Whether any value is one of the strings that are keys of a dict."""
    return isinstance(value, str) and value in table


def results_of(programs, files):
    """A dict from each name to what its program makes of the file."""
    results = {}
    for name in sorted(list(programs)):
        try:
            results[name] = programs[name].run(files[name])
        except (NoPlace, Overlap) as error:
            raise FileNotRight(name, error.index)
    return results


def entries_behind(entries, number, act, text):
    """The entries of blame behind the change with a number, told by those ahead of it, and by the text then.

    The act is the text that is written, None for a file that is removed, or a Program.
    """
    if act is None:
        return []
    if isinstance(act, str):
        return [(number, place) for place in range(len(act))]
    return [(number, origin) if isinstance(origin, tuple) else entries[origin] for origin in origins(act, text)]


class Folder:
    """Texts with names that are changed."""

    def __init__(self, files):
        if not are_files(files):
            raise InvalidFiles(files)
        # A moment is a tuple (files, acts): the files behind a change, and a dict from the names in it to what is done.
        # The moments are never changed, so that trials can go back to them.
        self._moments = ((ascending(files), {}),)
        # The moments that can be redone, the next one last.
        self._gone = ()
        self._depth = 0

    @property
    def files(self):
        return dict(self._moments[-1][0])

    @property
    def moment(self):
        return len(self._moments) - 1

    @property
    def undone(self):
        return len(self._gone)

    @property
    def depth(self):
        return self._depth

    def _check(self, files):
        """Raise an error for files that must not be there: here all may be."""

    def _named(self, names):
        """Look at the names in a change that is done: here there is nothing to do."""

    def _change(self, files, acts):
        """Make one change: the files behind it, and a dict from the names in it to what is done."""
        behind = ascending(files)
        self._check(behind)
        self._moments = (*self._moments, (behind, acts))
        self._gone = ()
        self._named(list(acts))

    def apply(self, programs):
        """Run a program on each of some files, or none of them."""
        files = self.files
        for name in sorted(list(programs)):
            if name not in files:
                raise NoFile(name)
        results = results_of(programs, files)
        self._change({**files, **results}, dict(programs))

    def write(self, name, text):
        """Write a file, new or not."""
        if not is_name(name):
            raise InvalidName(name)
        if not is_text(text):
            raise InvalidText(text)
        files = self.files
        files[name] = text
        if len(files) > MAX_FILES:
            raise TooMany(MAX_FILES)
        self._change(files, {name: text})

    def remove(self, name):
        """Remove a file."""
        files = self.files
        if not is_key(name, files):
            raise NoFile(name)
        del files[name]
        self._change(files, {name: None})

    def undo(self, count=1):
        """Undo so many changes, the last one first."""
        if not is_integer_in(count, 0, self.moment):
            raise OutOfRange(count)
        kept = len(self._moments) - count
        self._gone = self._gone + self._moments[kept:][::-1]
        self._moments = self._moments[:kept]

    def redo(self, count=1):
        """Redo so many changes, the last one undone first."""
        if not is_integer_in(count, 0, self.undone):
            raise OutOfRange(count)
        kept = len(self._gone) - count
        self._moments = self._moments + self._gone[kept:][::-1]
        self._gone = self._gone[:kept]

    def attempt(self, action):
        """What an action returns for this folder; if an error leaves the action, all is as before."""
        moments, gone, depth = self._moments, self._gone, self._depth
        self._depth = depth + 1
        try:
            result = action(self)
            # No error: so what is done stays.
            moments = None
        finally:
            self._depth = depth
            if moments is not None:
                self._moments, self._gone = moments, gone
        return result

    def explore(self, action):
        """What an action returns for this folder; all is as before in any case."""
        moments, gone, depth = self._moments, self._gone, self._depth
        self._depth = depth + 1
        try:
            return action(self)
        finally:
            self._moments, self._gone, self._depth = moments, gone, depth

    def at(self, number):
        """The files behind so many changes."""
        if not is_integer_in(number, 0, self.moment):
            raise OutOfRange(number)
        return dict(self._moments[number][0])

    def blame(self, name):
        """For each letter of a file (number, origin): the change that put it, 0 for the first files, and its origin."""
        if not is_key(name, self._moments[-1][0]):
            raise NoFile(name)
        first = self._moments[0][0]
        entries = [(0, place) for place in range(len(first[name]))] if name in first else []
        for number in range(1, len(self._moments)):
            acts = self._moments[number][1]
            if name in acts:
                entries = entries_behind(entries, number, acts[name], self._moments[number - 1][0].get(name))
        return tuple(entries)


def hunks_of_file(folder, name):
    """The hunks of the present text of a file of the beginning, that is still there; kept letters by their blame."""
    indexes = [origin if number == 0 else None for number, origin in folder.blame(name)]
    return hunks_between(len(folder.at(0)[name]), folder.files[name], indexes)


def joined_old(one, other, name):
    """The text of a file of the beginning with the changes of two folders, None if it is not there any more."""
    folders = [folder for folder in (one, other) if name in folder.files]
    hunks = [hunks_of_file(folder, name) for folder in folders]
    if len(folders) == 2:
        if clashing(hunks[0], hunks[1]):
            raise Apart(name)
        together = {hunk: True for hunk in [*hunks[0], *hunks[1]]}
        return text_behind(one.at(0)[name], sorted(list(together)))
    if folders and hunks[0]:
        raise Apart(name)
    return None


def joined_new(one, other, name):
    """The text of a file that was not there at the beginning."""
    texts = [folder.files[name] for folder in (one, other) if name in folder.files]
    if texts[0] != texts[-1]:
        raise Apart(name)
    return texts[0]


def joined(one, other):
    """A new folder with the changes of two folders with the same files at the beginning."""
    first = one.at(0)
    if first != other.at(0):
        raise Unlike()
    left, right = one.files, other.files
    files = {}
    for name in sorted(list({**first, **left, **right})):
        text = joined_old(one, other, name) if name in first else joined_new(one, other, name)
        if text is not None:
            files[name] = text
    if len(files) > MAX_FILES:
        raise TooMany(MAX_FILES)
    return Folder(files)


class GuardedFolder(Folder):
    """A folder in which files that have a guard are in its set, and which keeps programs for later."""

    def __init__(self, files, guards):
        super().__init__(files)
        self._guards = dict(guards)
        # For each label (program, names).
        self._kept = {}
        self._check(self._moments[0][0])

    @property
    def labels(self):
        return tuple(sorted(list(self._kept)))

    def _check(self, files):
        """Raise Broken for the first file that is not in its guard."""
        for name in files:
            if name in self._guards and files[name] not in self._guards[name]:
                raise Broken(name)

    def keep(self, label, program, names):
        """Keep a program, to be done later on some files."""
        check_fit(program)
        for value in [label, *names]:
            if not is_name(value):
                raise InvalidName(value)
        for name in sorted(names):
            if name in self._guards:
                case = unheld(self._guards[name], program, self._guards[name])
                if case is not None:
                    raise Unsafe(name, case)
        self._kept[label] = (program, list(names))

    def do(self, label):
        """Run the program that is kept under a label on all its files that are there."""
        if not is_key(label, self._kept):
            raise NoLabel(label)
        program, names = self._kept[label]
        files = self.files
        programs = {name: program for name in names if name in files}
        results = results_of(programs, files)
        self._change({**files, **results}, programs)


class CountingFolder(Folder):
    """A folder that counts how many changes have named each file."""

    def __init__(self, files):
        super().__init__(files)
        self._counts = {}

    @property
    def counts(self):
        return ascending(self._counts)

    def _named(self, names):
        """Count the names in a change that is done."""
        for name in names:
            self._counts[name] = self._counts.get(name, 0) + 1


class GuardedCountingFolder(GuardedFolder, CountingFolder):
    """A folder with guards that counts."""

    def __init__(self, files, guards):
        super().__init__(files, guards)
