"""Runs: tuples (piece, times), one behind another, that tell a text too long to be written out.

The operators of LongText call some of these functions: so each one changes only what it has made itself.
"""

from anchoredits.edits import places


def length_of(runs):
    """How many letters these runs have."""
    return sum([len(piece) * times for piece, times in runs])


def cut(piece, first, number):
    """So many letters, from an index on, of a piece that stands again and again. They are written out."""
    begin = first % len(piece)
    copies = (begin + number - 1) // len(piece) + 1
    return (piece * copies)[begin:begin + number]


def part_of_run(piece, first, last):
    """Runs of the letters from first to last - 1 of a piece that stands again and again."""
    times, rest = divmod(last - first, len(piece))
    told = []
    if times > 0:
        told.append((cut(piece, first, len(piece)), times))
    if rest > 0:
        told.append((cut(piece, first, rest), 1))
    return told


def part_of(runs, first, last):
    """Runs of the letters from first to last - 1."""
    told = []
    begin = 0
    for piece, times in runs:
        end = begin + len(piece) * times
        if first < end and begin < last:
            told.extend(part_of_run(piece, max(first, begin) - begin, min(last, end) - begin))
        begin = end
    return told


def written_out(runs):
    """The text of some runs of few letters."""
    return "".join([piece * times for piece, times in runs])


def without_seams(runs):
    """Runs of the same text, in which pieces that stand only once are put together with their neighbours."""
    told = []
    single = []
    for piece, times in runs:
        if times == 1:
            single.append(piece)
            continue
        if single:
            told.append(("".join(single), 1))
            single = []
        told.append((piece, times))
    if single:
        told.append(("".join(single), 1))
    return tuple(told)


def first_unlike_letter(one, other):
    """The first index at which two texts of one length differ."""
    for index, letter in enumerate(one):
        if letter != other[index]:
            return index
    return len(one)


def first_unlike(runs, others):
    """The first index at which two texts differ, or just one of them has a letter; None for equal texts."""
    place, index, other_index = 0, 0, 0
    # How many letters of the runs with these indexes are behind.
    done, other_done = 0, 0
    while index < len(runs) and other_index < len(others):
        piece, times = runs[index]
        other_piece, other_times = others[other_index]
        room = min(len(piece) * times - done, len(other_piece) * other_times - other_done)
        # What agrees on as many letters as both pieces have agrees as long as both go on.
        seen = min(room, len(piece) + len(other_piece))
        one, other = cut(piece, done, seen), cut(other_piece, other_done, seen)
        if one != other:
            return place + first_unlike_letter(one, other)
        place, done, other_done = place + room, done + room, other_done + room
        if done == len(piece) * times:
            index, done = index + 1, 0
        if other_done == len(other_piece) * other_times:
            other_index, other_done = other_index + 1, 0
    if index == len(runs) and other_index == len(others):
        return None
    return place


def beginning_behind(runs, index, number):
    """So many letters behind the run with this index, or all that there are."""
    told = []
    place = index + 1
    while number > 0 and place < len(runs):
        piece, times = runs[place]
        told.append(cut(piece, 0, min(number, len(piece) * times)))
        number -= len(told[-1])
        place += 1
    return "".join(told)


# A row tells places of a word that come again: a tuple (first, step, offsets, number) of so many places, first, in
# ascending order, first + each of the offsets, then each of these and a step more, and so on.


def rows_of_places(runs, word):
    """Rows of all places of a word, ascending."""
    told = []
    begin = 0
    for index, (piece, times) in enumerate(runs):
        size = len(piece) * times
        end = begin + size
        offsets = places(cut(piece, 0, min(size, len(piece) + len(word) - 1)), word)
        if offsets:
            number = sum([(size - len(word) - offset) // len(piece) + 1 for offset in offsets])
            told.append((begin, len(piece), offsets, number))
        # Those that begin in this run and end behind it.
        ahead = min(size, len(word) - 1)
        seam = cut(piece, size - ahead, ahead) + beginning_behind(runs, index, len(word) - 1)
        found = places(seam, word)
        if found:
            told.append((end - ahead, 0, found, len(found)))
        begin = end
    return told


def number_of_places(rows):
    """How many places some rows tell."""
    return sum([number for _, _, _, number in rows])


def place_in_row(row, number):
    """The place with this number of a row."""
    first, step, offsets, _ = row
    return first + number // len(offsets) * step + offsets[number % len(offsets)]


def place_in(rows, number):
    """The place with this number of all that some rows tell, None if there is none."""
    for row in rows:
        if number < row[3]:
            return place_in_row(row, number)
        number -= row[3]
    return None
