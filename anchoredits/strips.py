"""What an edit does to a text too long to be written out.

A strip is a tuple (begin, length, times, puts): from begin on, so many letters of the text stand so many times, and in
each of these the same is put. puts are tuples (first, last, new, part) as for other texts, but counted from where each
of these begins. The strips of an edit ascend, and have all letters of the text.
"""

from anchoredits.doing import checked_puts, fits
from anchoredits.edits import AtOnce, Every
from anchoredits.errors import NoPlace
from anchoredits.pieces import (
    length_of, number_of_places, part_of, place_in, place_in_row, rows_of_places, without_seams, written_out,
)


def puts_at_once(parts, index, runs):
    """What the AtOnce with this index and these parts puts into a text."""
    puts = []
    for part, (old, new) in enumerate(parts):
        rows = rows_of_places(runs, old)
        number = number_of_places(rows)
        if number != 1:
            raise NoPlace(index, number)
        place = place_in(rows, 0)
        puts.append((place, place + len(old), new, part))
    return checked_puts(puts, index)


def taken_in(row, length, end):
    """Tuples (found, shift, times): those places of a row, from left to right, that do not overlap the last one taken.

    The places found come so many times, each time a shift further on. A single place has the shift 0. The old has this
    length, and the last one taken ahead of the row ends at end.
    """
    told = []
    number = 0
    # The numbers of the places taken one by one, and for each offset the index in this list of one that has it.
    taken, seen = [], {}
    while number < row[3]:
        place = place_in_row(row, number)
        if place < end:
            number += 1
            continue
        offset = number % len(row[2])
        if offset in seen:
            cycle = taken[seen[offset]:]
            ahead = number - cycle[0]
            # Behind the last time comes a place of this row, too: so all letters up to there stand in its run.
            times = (row[3] - 1 - number) // ahead
            if times > 0:
                shift = place - place_in_row(row, cycle[0])
                told.append(([place_in_row(row, one + ahead) for one in cycle], shift, times))
                number += ahead * times
                end = place + shift * times
                taken, seen = [], {}
                continue
        seen[offset] = len(taken)
        taken.append(number)
        told.append(([place], 0, 1))
        end = place + length
        number += 1
    return told


def strips_of_every(edit, rows, length):
    """The strips of an Every, told by the rows of all places of its old, of a text of this length."""
    strips = []
    begin, end = 0, 0
    puts = []
    for row in rows:
        for found, shift, times in taken_in(row, len(edit.old), end):
            first = found[0]
            if shift == 0:
                end = first + len(edit.old)
                puts.append((first - begin, end - begin, edit.new, 0))
            else:
                strips.append((begin, first - begin, 1, puts))
                again = [(place - first, place - first + len(edit.old), edit.new, 0) for place in found]
                strips.append((first, shift, times, again))
                begin = first + shift * times
                end = begin
                puts = []
    strips.append((begin, length - begin, 1, puts))
    return strips


def strips_of(edit, index, runs):
    """The strips of the edit with this index; NoPlace or Overlap if it is not right for the text."""
    length = length_of(runs)
    if isinstance(edit, AtOnce):
        return [(0, length, 1, puts_at_once(edit.parts, index, runs))]
    rows = rows_of_places(runs, edit.old)
    number = number_of_places(rows)
    if not fits(edit, number):
        raise NoPlace(index, number)
    if isinstance(edit, Every):
        return strips_of_every(edit, rows, length)
    if number == 0:
        return [(0, length, 1, [])]
    place = place_in(rows, 0)
    return [(0, length, 1, [(place, place + len(edit.old), edit.new, 0)])]


def runs_of_strip(runs, begin, length, puts):
    """Runs of what stands there once behind an edit where a strip was."""
    inside = part_of(runs, begin, begin + length)
    told = []
    kept = 0
    for first, last, new, _ in puts:
        told.extend(part_of(inside, kept, first))
        if new != "":
            told.append((new, 1))
        kept = last
    told.extend(part_of(inside, kept, length))
    return told


def runs_behind(runs, strips):
    """Runs of the text behind an edit, told by its strips."""
    told = []
    for begin, length, times, puts in strips:
        once = runs_of_strip(runs, begin, length, puts)
        if times == 1:
            told.extend(once)
        elif once:
            told.append((written_out(once), times))
    return without_seams(told)


def origin_in(begin, puts, place):
    """What origin_behind tells, for a place counted from where a strip begins once."""
    kept = 0
    for first, last, new, part in puts:
        if place < first - kept:
            break
        place -= first - kept
        if place < len(new):
            return (part, place)
        place -= len(new)
        kept = last
    return begin + kept + place


def origin_behind(strips, place):
    """Where the letter with an index behind an edit comes from: its index ahead of it, or (part, place in the new)."""
    for begin, length, times, puts in strips:
        size = length + sum([len(new) - (last - first) for first, last, new, _ in puts])
        if place < size * times:
            turn, rest = divmod(place, size)
            return origin_in(begin + turn * length, puts, rest)
        place -= size * times
    return None
