"""Exchanges: changes of a text at several windows, each of which stands once.

The tables of a price paper have a row for each number of letters of one that are done, and in it a price for each
number of letters of other: kept has the prices of the points outside of all windows, begun those inside of one.
"""

from itertools import permutations

from anchoredits.anchors import stands_once
from anchoredits.covers import least_ends
from anchoredits.doing import text_behind
from anchoredits.edits import AtOnce
from anchoredits.errors import InvalidPart, NoExchange, TooMany
from anchoredits.integers import is_grid, is_integer_in
from anchoredits.letters import is_text


def is_exchange_part(value, text, least):
    """Whether any value is a part of an exchange for a text, with a window that begins at an index or behind it."""
    if not isinstance(value, tuple) or len(value) != 3:
        return False
    begin, end, new = value
    if not is_integer_in(begin, least, len(text) - 1) or not is_integer_in(end, begin + 1, len(text)):
        return False
    return is_text(new) and stands_once(text, text[begin:end])


def first_wrong(text, exchange):
    """The index of the first part of any value by which it is no exchange for a text, None if it is one."""
    if not isinstance(exchange, tuple):
        return 0
    least = 0
    for index, part in enumerate(exchange):
        if not is_exchange_part(part, text, least):
            return index
        least = part[1]
    return None


def exchanged(text, exchange):
    """The text in which the letters of each window are exchanged for its new."""
    wrong = first_wrong(text, exchange)
    if wrong is not None:
        raise NoExchange(wrong)
    return text_behind(text, exchange)


def is_exchange(text, other, value):
    """Whether any value is an exchange for a text that leads to the other one."""
    return first_wrong(text, value) is None and text_behind(text, value) == other


def cost_of(exchange, *, each=0):
    """What an exchange costs: its letters, and each for each part."""
    return sum([end - begin + len(new) + each for begin, end, new in exchange])


def openings(text):
    """For each index the begins of all windows for which it is the least end to stand once."""
    told = [[] for _ in range(len(text) + 1)]
    for begin, end in enumerate(least_ends(text)):
        if end is not None:
            told[end].append(begin)
    return told


def price_tables(one, other, each):
    """(kept, begun): the least prices of all points. A point that no walk reaches has a price beyond all others."""
    beyond = (len(one) + len(other) + 1) * (each + 1)
    begins = openings(one)
    kept, begun = [], []
    for i in range(len(one) + 1):
        kept_row, begun_row = [], []
        for j in range(len(other) + 1):
            told = [kept[begin][j] + i - begin + each for begin in begins[i]]
            if i > 0:
                told.append(begun[i - 1][j] + 1)
            if j > 0:
                told.append(begun_row[j - 1] + 1)
            begun_row.append(min([beyond, *told]))
            told = [0 if i == 0 and j == 0 else begun_row[j]]
            if i > 0 and j > 0 and one[i - 1] == other[j - 1]:
                told.append(kept[i - 1][j - 1])
            kept_row.append(min(told))
        kept.append(kept_row)
        begun.append(begun_row)
    return kept, begun


def window_back(begun, begins, kept, i, j, each):
    """(begin, j): where the window of a walk began that is still open at a point, by the prices of all points."""
    while True:
        for begin in begins[i]:
            if begun[i][j] == kept[begin][j] + i - begin + each:
                return begin, j
        if j > 0 and begun[i][j] == begun[i][j - 1] + 1:
            j -= 1
        else:
            i -= 1


def has_exchange(one, other):
    """Whether some exchange leads from one text to the other: there is none only from the empty text."""
    return one != "" or other == ""


def cheapest(one, other, *, each=0):
    """An exchange for one that leads to other at the least cost, None if there is none."""
    if not has_exchange(one, other):
        return None
    kept, begun = price_tables(one, other, each)
    begins = openings(one)
    parts = []
    i, j = len(one), len(other)
    while i > 0 or j > 0:
        if i > 0 and j > 0 and one[i - 1] == other[j - 1] and kept[i][j] == kept[i - 1][j - 1]:
            i, j = i - 1, j - 1
        else:
            end, last = i, j
            i, j = window_back(begun, begins, kept, i, j, each)
            parts.append((i, end, other[j:last]))
    return tuple(reversed(parts))


def prices(one, other, *, each=0):
    """A price paper for the least cost of an exchange for one that leads to other, None if there is none."""
    if not has_exchange(one, other):
        return None
    kept, begun = price_tables(one, other, each)
    return ("prices", tuple([tuple(row) for row in kept]), tuple([tuple(row) for row in begun]))


def steps_on(one, other, each):
    """All steps, as tuples (kind, i, j, kind, i, j, cost); a kind is the index of a table in a price paper."""
    told = []
    ends = least_ends(one)
    for i in range(len(one) + 1):
        for j in range(len(other) + 1):
            told.append((2, i, j, 1, i, j, 0))
            if i < len(one):
                told.append((2, i, j, 2, i + 1, j, 1))
            if j < len(other):
                told.append((2, i, j, 2, i, j + 1, 1))
            if i < len(one) and j < len(other) and one[i] == other[j]:
                told.append((1, i, j, 1, i + 1, j + 1, 0))
            if i < len(one) and ends[i] is not None:
                told.append((1, i, j, 2, ends[i], j, ends[i] - i + each))
    return told


def is_prices(one, other, number, value, *, each=0):
    """Whether any value is a price paper for two texts and a number."""
    if not isinstance(value, tuple) or len(value) != 3 or value[0] != "prices":
        return False
    if not is_grid(value[1], len(one) + 1, len(other) + 1) or not is_grid(value[2], len(one) + 1, len(other) + 1):
        return False
    if value[1][0][0] != 0 or value[1][-1][-1] != number:
        return False
    for kind, i, j, kind_behind, i_behind, j_behind, cost in steps_on(one, other, each):
        if value[kind_behind][i_behind][j_behind] > value[kind][i][j] + cost:
            return False
    return True


def common_length(one, other):
    """How many letters the longest beginning of both texts has."""
    length = 0
    for left, right in zip(one, other):
        if left != right:
            break
        length += 1
    return length


def single(one, other):
    """The cheapest exchange of at most one part that leads from one to other, None if there is none."""
    if one == other:
        return ()
    ahead, behind = common_length(one, other), common_length(one[::-1], other[::-1])
    windows = []
    for begin, end in enumerate(least_ends(one)):
        if begin > ahead or end is None:
            break
        # What stands ahead of the window, and behind it, must not overlap in other either.
        end = max(end, len(one) - behind, begin + len(one) - len(other))
        windows.append((begin, end))
    if not windows:
        return None
    begin, end = min(windows, key=lambda window: window[1] - window[0])
    return ((begin, end, other[begin:len(other) - (len(one) - end)]),)


def thin(text, begin, end, new):
    """A part of an exchange without those letters at its end, then at its beginning, that need not be in it."""
    while end - begin > 1 and new.endswith(text[end - 1]) and stands_once(text, text[begin:end - 1]):
        end, new = end - 1, new[:-1]
    while end - begin > 1 and new.startswith(text[begin]) and stands_once(text, text[begin + 1:end]):
        begin, new = begin + 1, new[1:]
    return (begin, end, new)


def thinned(text, exchange):
    """The exchange without parts that change nothing, each other one made thinner."""
    return tuple([thin(text, begin, end, new) for begin, end, new in exchange if text[begin:end] != new])


def words_of_parts(text, exchange):
    """Tuples (old, new): the parts of an exchange as edits."""
    return [(text[begin:end], new) for begin, end, new in exchange]


def done_in_turn(text, words):
    """The text behind edits (old, new), done in the way of a Once, None if one is not right at its time."""
    for old, new in words:
        if not stands_once(text, old):
            return None
        text = text.replace(old, new)
    return text


def orders_of(text, exchange):
    """All orders in which the parts as edits lead to the same text as the exchange, tuples of their indexes."""
    words = words_of_parts(text, exchange)
    goal = text_behind(text, exchange)
    told = []
    for order in permutations(range(len(words))):
        if done_in_turn(text, [words[index] for index in order]) == goal:
            told.append(order)
    return told


def as_edit(text, exchange):
    """The AtOnce that does what an exchange does, None if it has too many parts or letters for that."""
    parts = words_of_parts(text, exchange)
    try:
        return AtOnce(*parts)
    except (InvalidPart, TooMany):
        return None
