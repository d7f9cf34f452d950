"""Programs: edits that are done one after the other."""

from anchoredits.doing import parts_of, puts_of, text_behind
from anchoredits.edits import AtOnce, Edit, Every, First, Once, Perhaps
from anchoredits.errors import InvalidEdit, InvalidText, NoMirror, NoPlace, Overlap, TooMany
from anchoredits.letters import is_text
from anchoredits.limits import MAX_EDITS


def check_edits(edits):
    """Raise the first error that is due for the edits of a program."""
    for index, edit in enumerate(edits):
        if not isinstance(edit, Edit):
            raise InvalidEdit(index)
    if len(edits) > MAX_EDITS:
        raise TooMany(MAX_EDITS)


def mirrored_edit(edit, index):
    """The edit with this index, with its words written from their ends."""
    if isinstance(edit, (First, Every)):
        raise NoMirror(index)
    if isinstance(edit, AtOnce):
        parts = [(old[::-1], new[::-1]) for old, new in edit.parts]
        return AtOnce(*parts)
    if isinstance(edit, Perhaps):
        return Perhaps(edit.old[::-1], edit.new[::-1])
    return Once(edit.old[::-1], edit.new[::-1])


class Program:
    """Edits that are done one after the other."""

    def __init__(self, *edits):
        check_edits(edits)
        self._edits = edits

    @property
    def edits(self):
        return self._edits

    @property
    def olds(self):
        return tuple([old for edit in self._edits for old, _ in parts_of(edit)])

    @property
    def news(self):
        return tuple([new for edit in self._edits for _, new in parts_of(edit)])

    def __len__(self):
        return len(self._edits)

    def __eq__(self, other):
        return isinstance(other, Program) and self._edits == other._edits

    def then(self, *others):
        """The program with the edits of others behind."""
        edits = list(self._edits)
        for other in others:
            edits.extend(list(other.edits))
        return Program(*edits)

    def run(self, text):
        """The text behind all edits."""
        if not is_text(text):
            raise InvalidText(text)
        for index, edit in enumerate(self._edits):
            text = text_behind(text, puts_of(edit, index, text))
        return text

    def is_right(self, text):
        """Whether each edit is right at its time."""
        try:
            self.run(text)
        except (NoPlace, Overlap):
            return False
        return True

    def steps(self, text):
        """The text, then the text behind each edit."""
        if not is_text(text):
            raise InvalidText(text)
        yield text
        for index, edit in enumerate(self._edits):
            text = text_behind(text, puts_of(edit, index, text))
            yield text

    def mirrored(self):
        """The program that does the same to mirrored texts."""
        edits = [mirrored_edit(edit, index) for index, edit in enumerate(self._edits)]
        return Program(*edits)
