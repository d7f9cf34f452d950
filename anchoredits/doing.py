"""What a single edit does to a text."""

from anchoredits.edits import AtOnce, Every, First, Perhaps, places
from anchoredits.errors import NoPlace, Overlap


def parts_of(edit):
    """The pairs (old, new) of an edit of any kind."""
    if isinstance(edit, AtOnce):
        return edit.parts
    return ((edit.old, edit.new),)


def fits(edit, number):
    """Whether an edit with one old is right where its old has so many places."""
    if isinstance(edit, (First, Every)):
        return number > 0
    if isinstance(edit, Perhaps):
        return number < 2
    return number == 1


def apart(found, length):
    """Those places, from left to right, that do not overlap the last one taken."""
    taken = []
    end = 0
    for place in found:
        if place >= end:
            taken.append(place)
            end = place + length
    return taken


def puts_of_one(edit, index, text):
    """What puts_of tells, for an edit with one old."""
    found = places(text, edit.old)
    if not fits(edit, len(found)):
        raise NoPlace(index, len(found))
    if isinstance(edit, First):
        found = found[:1]
    return [(place, place + len(edit.old), edit.new, 0) for place in apart(found, len(edit.old))]


def checked_puts(puts, index):
    """What the AtOnce with this index puts, from left to right; Overlap if two of these overlap."""
    told = sorted(puts)
    for left, right in zip(told, told[1:]):
        if right[0] < left[1]:
            raise Overlap(index)
    return told


def puts_of_parts(parts, index, text):
    """What puts_of tells, for an AtOnce."""
    puts = []
    for part, (old, new) in enumerate(parts):
        found = places(text, old)
        if len(found) != 1:
            raise NoPlace(index, len(found))
        puts.append((found[0], found[0] + len(old), new, part))
    return checked_puts(puts, index)


def puts_of(edit, index, text):
    """What the edit with this index puts into a text: tuples (begin, end, new, part), from left to right.

    Each new is put in the place of the letters from begin to end - 1.
    """
    if isinstance(edit, AtOnce):
        return puts_of_parts(edit.parts, index, text)
    return puts_of_one(edit, index, text)


def text_behind(text, puts):
    """The text in which all of these are put: tuples that begin with (begin, end, new), from left to right."""
    pieces = []
    kept = 0
    for put in puts:
        begin, end, new = put[:3]
        pieces.append(text[kept:begin])
        pieces.append(new)
        kept = end
    pieces.append(text[kept:])
    return "".join(pieces)
