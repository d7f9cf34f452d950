"""How far texts are from one another, told in changes of single letters."""

from anchoredits.errors import InvalidChange
from anchoredits.integers import is_grid, is_integer_in
from anchoredits.letters import is_text


def is_change(value, text):
    """Whether any value is a change of a text."""
    if not isinstance(value, tuple) or len(value) < 2:
        return False
    if value[0] == "drop":
        return len(value) == 2 and is_integer_in(value[1], 0, len(text) - 1)
    if len(value) != 3 or not is_text(value[2]) or len(value[2]) != 1:
        return False
    if value[0] == "put":
        return is_integer_in(value[1], 0, len(text))
    return value[0] == "set" and is_integer_in(value[1], 0, len(text) - 1) and value[2] != text[value[1]]


def changed(text, changes):
    """The text behind a list of changes, done one after the other."""
    for number, change in enumerate(changes):
        if not is_change(change, text):
            raise InvalidChange(number)
        index = change[1]
        letter = "" if change[0] == "drop" else change[2]
        text = text[:index] + letter + text[index if change[0] == "put" else index + 1:]
    return text


# A beginning of one with i letters and a beginning of other with j letters lie on the diagonal j - i.
# A level is a dict from diagonals to the greatest i to which so many changes lead; each level has one change more.


def run_on(one, other, index, diagonal):
    """The index up to which equal letters go on, on a diagonal."""
    while index < len(one) and index + diagonal < len(other) and one[index] == other[index + diagonal]:
        index += 1
    return index


def starts_behind(one, other, level, diagonal):
    """Tuples (index, word): where one more change behind a level leads on a diagonal, and which change it is."""
    told = []
    if diagonal - 1 in level and level[diagonal - 1] + diagonal <= len(other):
        told.append((level[diagonal - 1], "put"))
    if diagonal + 1 in level and level[diagonal + 1] < len(one):
        told.append((level[diagonal + 1] + 1, "drop"))
    if diagonal in level and level[diagonal] < min(len(one), len(other) - diagonal):
        # Equal letters have been run over: so this letter becomes an unlike one.
        told.append((level[diagonal] + 1, "set"))
    return told


def levels_to(one, other):
    """The levels, up to the first one that leads from one to other."""
    goal = len(other) - len(one)
    levels = [{0: run_on(one, other, 0, 0)}]
    while levels[-1].get(goal) != len(one):
        last = levels[-1]
        level = {}
        for diagonal in range(min(list(last)) - 1, max(list(last)) + 2):
            starts = starts_behind(one, other, last, diagonal)
            if starts:
                level[diagonal] = run_on(one, other, max(starts)[0], diagonal)
        levels.append(level)
    return levels


def distance(one, other):
    """The least number of changes that lead from one text to the other."""
    return len(levels_to(one, other)) - 1


def changes(one, other):
    """As few changes as possible that lead from one text to the other.

    They are done from right to left: so the indexes of those that follow are not moved.
    """
    levels = levels_to(one, other)
    diagonal = len(other) - len(one)
    told = []
    for level in reversed(levels[:-1]):
        index, word = max(starts_behind(one, other, level, diagonal))
        if word == "put":
            told.append(("put", index, other[index + diagonal - 1]))
            diagonal -= 1
        elif word == "drop":
            told.append(("drop", index - 1))
            diagonal += 1
        else:
            told.append(("set", index - 1, other[index + diagonal - 1]))
    return told


def best_of(pairs):
    """The pair (least number, lengths) of some pairs, the lengths of all with this number together."""
    least = min([number for number, _ in pairs])
    together = 0
    for number, lengths in pairs:
        if number == least:
            together |= lengths
    return (least, together)


def next_column(column, letter, old):
    """The column behind one more letter of the text.

    A column tells for each beginning of old its least distance from a window, perhaps empty, that ends here, and the
    lengths of all windows with this distance, as bits of an integer.
    """
    told = [(0, 1)]
    for index, old_letter in enumerate(old):
        number, lengths = column[index]
        above, above_lengths = column[index + 1]
        ahead, ahead_lengths = told[index]
        told.append(best_of([
            (number + int(letter != old_letter), lengths << 1), (above + 1, above_lengths << 1),
            (ahead + 1, ahead_lengths),
        ]))
    return told


def nearest(text, old):
    """(number, windows): the least distance of old from a window of the text, and all windows with this distance."""
    if text == "":
        return (len(old), [])
    if old == "":
        return (1, [(index, index + 1) for index in range(len(text))])
    column = [(number, 1) for number in range(len(old) + 1)]
    ends = []
    for letter in text:
        column = next_column(column, letter, old)
        ends.append(column[-1])
    # No empty window is nearer than each window of a single letter, but it may be as near.
    least = min([number for number, _ in ends])
    windows = []
    for place, (number, lengths) in enumerate(ends):
        if number == least:
            found = [length for length in range(1, lengths.bit_length()) if lengths >> length & 1]
            windows.extend([(place + 1 - length, place + 1) for length in found])
    return (least, sorted(windows))


def far_paper(one, other):
    """A paper that shows that the distance of two texts is at least what it is."""
    rows = [list(range(len(other) + 1))]
    for number, letter in enumerate(one):
        last = rows[-1]
        row = [number + 1]
        for index, other_letter in enumerate(other):
            row.append(min(row[index] + 1, last[index + 1] + 1, last[index] + int(letter != other_letter)))
        rows.append(row)
    return ("far", tuple([tuple(row) for row in rows]))


def is_near_enough(last, row, index, is_same):
    """Whether an integer of a paper is not too great beside those ahead of it; is_same of equal letters."""
    above = last[index - 1] if is_same else last[index - 1] + 1
    return row[index] <= min(row[index - 1] + 1, last[index] + 1, above)


def are_far_rows(rows, one, other):
    """Whether no integer in the rows of a paper is too great beside those ahead of it."""
    if any([rows[0][index] > rows[0][index - 1] + 1 for index in range(1, len(other) + 1)]):
        return False
    for number, letter in enumerate(one):
        last, row = rows[number], rows[number + 1]
        if row[0] > last[0] + 1:
            return False
        for index, other_letter in enumerate(other):
            if not is_near_enough(last, row, index + 1, letter == other_letter):
                return False
    return True


def is_far_paper(one, other, number, value):
    """Whether any value is a far paper for two texts and a number."""
    if not isinstance(value, tuple) or len(value) != 2 or value[0] != "far":
        return False
    rows = value[1]
    if not is_grid(rows, len(one) + 1, len(other) + 1):
        return False
    return rows[0][0] == 0 and rows[-1][-1] == number and are_far_rows(rows, one, other)
