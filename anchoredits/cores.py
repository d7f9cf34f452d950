"""Tables of machines.

A table that is worked on is told by classes of letters, by the text that is written first, by endings (for each state
the text that is written in the end, or None), and by rows (for each state a dict from the index of a class to a tuple:
the state behind, and what is written). ITSELF stands there for the letter that is read, in classes of several letters.
Operators and properties call these functions: so each one changes only what it has made itself.
"""

from anchoredits.blocks import blocks_of, classes_of, grouped, leading, numbered, numbers_from_first

# A character that is no letter.
ITSELF = "\t"

# The table of the machine for which no text is right.
NEVER = ("", ((None, ()),))


def words_read(table):
    """The letters of all moves of a table."""
    return [move[0] for _, moves in table[1] for move in moves]


def letters_written(table):
    """All letters of the texts that a table tells."""
    endings = "".join([ending for ending, _ in table[1] if ending is not None])
    return list(table[0] + endings + "".join([move[2] for _, moves in table[1] for move in moves]))


def endings_of(table):
    """The endings of a table."""
    return [ending for ending, _ in table[1]]


def rows_written(table, classes):
    """The rows of a table, their classes ascending."""
    firsts = {letters[0]: index for index, letters in enumerate(classes)}
    itself = [ITSELF if len(letters) > 1 else letters for letters in classes]
    rows = []
    for _, moves in table[1]:
        row = {}
        for word, target, text, copies in moves:
            for index in [firsts[letter] for letter in word if letter in firsts]:
                row[index] = (target, text + itself[index] if copies else text)
        rows.append({index: row[index] for index in sorted(list(row))})
    return rows


def arrows_behind(rows):
    """The arrows (source, class, target) of some rows."""
    return [(source, index, row[index][0]) for source, row in enumerate(rows) for index in row]


def common(one, other):
    """The longest text with which both begin."""
    length = 0
    for left, right in zip(one, other):
        if left != right:
            break
        length += 1
    return one[:length]


def fixed(text):
    """The beginning of a text that is written, as far as it does not depend on the letter that is read."""
    return text.partition(ITSELF)[0]


def some_ends(endings, rows):
    """For each state something that is written from it on for a right text, as far as it is fixed; None without one."""
    back = grouped([(target, (source, index)) for source, index, target in arrows_behind(rows)])
    texts = list(endings)
    waiting = [state for state, ending in enumerate(endings) if ending is not None]
    done = 0
    while done < len(waiting):
        target = waiting[done]
        for source, index in back.get(target, []):
            if texts[source] is None:
                written = rows[source][index][1]
                texts[source] = fixed(written) if ITSELF in written else written + texts[target]
                waiting.append(source)
        done += 1
    return texts


def agreed(text, ending, row, texts):
    """With what of the text all that is written from a state on begins, as its ending, row and the texts tell."""
    if ending is not None:
        text = common(text, ending)
    for index in row:
        if text == "":
            break
        target, written = row[index]
        text = common(text, fixed(written) if ITSELF in written else written + texts[target])
    return text


def sure_ends(endings, rows):
    """For each state with what all that is written from it on begins.

    From each state a state with an ending can be reached, but perhaps from one that no other leads to.
    """
    texts = [text if text is not None else "" for text in some_ends(endings, rows)]
    is_done = False
    while not is_done:
        is_done = True
        for state in [state for state, text in enumerate(texts) if text != ""]:
            text = agreed(texts[state], endings[state], rows[state], texts)
            if text != texts[state]:
                texts[state] = text
                is_done = False
    return texts


def kept_rows(endings, rows):
    """The rows without the moves behind which no text is right; None if no text is right at all."""
    goals = [state for state, ending in enumerate(endings) if ending is not None]
    alive = leading(len(rows), arrows_behind(rows), goals)
    if not alive[0]:
        return None
    return [{index: row[index] for index in row if alive[row[index][0]]} for row in rows]


def letter_moves(written, target, letters):
    """Pairs (kind, letters): the letters that lead to the target alike, their kind (target, text, copies)."""
    if written.endswith(ITSELF):
        return [((target, written[:-1], True), letters)]
    moves = []
    for letter in letters:
        text = written.replace(ITSELF, letter)
        copies = text.endswith(letter)
        moves.append(((target, text[:-1] if copies else text, copies), letter))
    return moves


def moves_written(row, classes):
    """Ascending moves (letters, target, text, copies), told by a row."""
    groups = {}
    for index in row:
        target, written = row[index]
        for kind, letters in letter_moves(written, target, classes[index]):
            groups[kind] = groups.get(kind, "") + letters
    return sorted([("".join(sorted(groups[kind])), *kind) for kind in groups])


def onward(endings, rows, sure):
    """Rows and endings by which all that is sure is written as soon as it is."""
    ends = [None if ending is None else ending[len(text):] for ending, text in zip(endings, sure)]
    told = []
    for row, text in zip(rows, sure):
        written = {index: (row[index][0], row[index][1] + sure[row[index][0]]) for index in row}
        told.append({index: (written[index][0], written[index][1][len(text):]) for index in written})
    return ends, told


def blocks_written(endings, rows):
    """For each state the number of its block: states of one block do the same behind each beginning."""
    pairs = [(source, index) for source, row in enumerate(rows) for index in row]
    labels = numbered([(index, rows[source][index][1]) for source, index in pairs])
    arrows = [(source, label, rows[source][index][0]) for (source, index), label in zip(pairs, labels)]
    kinds = [tuple([(index, row[index][1]) for index in row]) for row in rows]
    return blocks_of([(ending, kind) for ending, kind in zip(endings, kinds)], arrows)


def least_machine(classes, first, endings, rows):
    """The least table of what these tell, from state 0 on."""
    kept = kept_rows(endings, rows)
    if kept is None:
        return NEVER
    sure = sure_ends(endings, kept)
    ends, told = onward(endings, kept, sure)
    block = blocks_written(ends, told)
    # One state of each block stands for all of it.
    state_of = {number: state for state, number in enumerate(block)}
    moves = {}
    for number in state_of:
        row = told[state_of[number]]
        moves[number] = moves_written({index: (block[row[index][0]], row[index][1]) for index in row}, classes)
    targets = {number: [move[1] for move in moves[number]] for number in moves}
    numbers = numbers_from_first(targets, block[0])
    states = [
        (ends[state_of[number]], tuple([(word, numbers[target], *kind) for word, target, *kind in moves[number]]))
        for number in numbers
    ]
    return (first + sure[0], tuple(states))


def least_machine_of(table):
    """The least table of a table."""
    classes = classes_of(words_read(table))
    return least_machine(classes, table[0], endings_of(table), rows_written(table, classes))


def fed(rows, homes, state, text, index):
    """(state, text): where rows lead with a text behind a letter of a class, and what they write; None without a move.

    homes tells the class of each letter.
    """
    written = ""
    for letter in text:
        move = rows[state].get(index if letter == ITSELF else homes[letter])
        if move is None:
            return None
        state = move[0]
        written = written + (move[1] if letter == ITSELF else move[1].replace(ITSELF, letter))
    return state, written
