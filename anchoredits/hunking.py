"""Hunks: what of a text is left out, and what is put in its place.

A hunk is a tuple (first, last, new): the text has its letters from first to last - 1, and the result has new. Between
two hunks of one result there is a letter that is kept.
"""


def gaps(length, entries):
    """Tuples (first, last, begin, end): the gaps between kept letters, in a text of this length and in the result.

    entries has for each letter of the result its index in the text, or anything that is no integer. Gaps without
    letters are left out.
    """
    told = []
    first, begin = 0, 0
    for place, entry in enumerate([*entries, length]):
        if not isinstance(entry, int):
            continue
        if first < entry or begin < place:
            told.append((first, entry, begin, place))
        first, begin = entry + 1, place + 1
    return told


def hunks_between(length, result, entries):
    """All hunks of a result of a text of this length, ascending; entries as for gaps."""
    return [(first, last, result[begin:end]) for first, last, begin, end in gaps(length, entries)]


def clashing(hunks, others):
    """Pairs of hunks of two results that meet and are not equal."""
    told = []
    ahead = 0
    for hunk in hunks:
        # The hunks ascend: so what ends ahead of this one ends ahead of all that follow.
        while ahead < len(others) and others[ahead][1] < hunk[0]:
            ahead += 1
        place = ahead
        while place < len(others) and others[place][0] <= hunk[1]:
            if others[place] != hunk:
                told.append((hunk, others[place]))
            place += 1
    return told


def moved(hunks, others):
    """Hunks as they lie where others are done, none of which meets one of them unless it is equal."""
    told = []
    done = 0
    shift = 0
    for first, last, new in hunks:
        while done < len(others) and others[done][0] < first:
            shift += len(others[done][2]) - (others[done][1] - others[done][0])
            done += 1
        told.append((first + shift, last + shift, new))
    return told
