"""Where the letters of a result come from."""

from anchoredits.doing import puts_of, text_behind
from anchoredits.errors import InvalidText
from anchoredits.letters import is_text


def origins_behind(entries, puts, index):
    """The entries of the letters behind the edit with this index, told by those ahead of it."""
    behind = []
    kept = 0
    for begin, end, new, part in puts:
        behind.extend(entries[kept:begin])
        behind.extend([(index, part, place) for place in range(len(new))])
        kept = end
    behind.extend(entries[kept:])
    return behind


def origins(program, text):
    """For each letter of the result its index in the text, or (edit, part, place) if it was put."""
    if not is_text(text):
        raise InvalidText(text)
    entries = list(range(len(text)))
    for index, edit in enumerate(program.edits):
        puts = puts_of(edit, index, text)
        entries = origins_behind(entries, puts, index)
        text = text_behind(text, puts)
    return tuple(entries)
