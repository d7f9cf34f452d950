"""Windows that stand once, and those with the fewest letters in which given spots of a text lie.

A spot is a tuple (first, last). The spots of a text ascend, and between two of them there is a letter.
"""

from anchoredits.anchors import stands_twice

# Where a walk through a text is: outside of all windows; there, but the empty spot at this index lies in no window yet;
# or inside of a window that stands once already.
OUTSIDE = 0
WAITING = 1
INSIDE = 2


def least_ends(text):
    """For each index the least end of a window that begins there and stands once, or None."""
    told = []
    end = 0
    for begin in range(len(text)):
        # A window that begins further on ends no earlier, so the end is never set back.
        end = max(end, begin + 1)
        while end <= len(text) and stands_twice(text, text[begin:end]):
            end += 1
        told.append(end if end <= len(text) else None)
    return told


def moves_on(kind, place, ends, empty, within):
    """Tuples (kind, place, cost): how a walk goes on.

    empty has the empty spots, and within the indexes of the letters in spots.
    """
    if kind == INSIDE:
        told = [(INSIDE, place + 1, 1)] if place < len(ends) else []
        if place - 1 in within and place in within:
            return told
        return [(OUTSIDE, place, 0), *told]
    if place == len(ends):
        return []
    told = []
    if kind == OUTSIDE and place not in within:
        told.append((WAITING if place + 1 in empty else OUTSIDE, place + 1, 0))
    if ends[place] is not None:
        told.append((INSIDE, ends[place], ends[place] - place))
    return told


def least_walk(ends, empty, within):
    """A dict from each (kind, place) that is reached at the least cost to (cost, the (kind, place) before)."""
    best = {(WAITING if 0 in empty else OUTSIDE, 0): (0, None)}
    for place in range(len(ends) + 1):
        for kind in (INSIDE, OUTSIDE, WAITING):
            if (kind, place) not in best:
                continue
            cost = best[kind, place][0]
            for kind_behind, place_behind, more in moves_on(kind, place, ends, empty, within):
                key = (kind_behind, place_behind)
                if key not in best or best[key][0] > cost + more:
                    best[key] = (cost + more, (kind, place))
    return best


def least_cover(text, spots):
    """Windows, ascending, that stand once and do not overlap, such that each spot lies in one of them, ends included.

    They have as few letters as possible. None if there are none.
    """
    empty = {first: True for first, last in spots if first == last}
    within = {place: True for first, last in spots for place in range(first, last)}
    best = least_walk(least_ends(text), empty, within)
    if (OUTSIDE, len(text)) not in best:
        return None
    windows = []
    end = None
    kind, place = OUTSIDE, len(text)
    before = best[kind, place][1]
    while before is not None:
        if kind == OUTSIDE and before[0] == INSIDE:
            end = place
        if kind == INSIDE and before[0] != INSIDE:
            windows.append((before[1], end))
        kind, place = before
        before = best[kind, place][1]
    return list(reversed(windows))
