"""Tables of sets of texts.

A table that is worked on is told by classes of letters, by ends (for each state whether a text may end there), and by
rows (for each state a dict from the index of a class to the state to which its letters lead).
Operators and properties call these functions: so each one changes only what it has made itself.
"""

from anchoredits.blocks import blocks_of, classes_of, grouped, homes_of, leading, numbers_from_first
from anchoredits.integers import is_integer_in
from anchoredits.letters import is_text

# The table of the empty set.
NOTHING = ((False, ()),)

# For a text that is in neither of two sets, in the second one only, in the first one only, in both: whether it counts.
IN_ANY = (False, True, True, True)
IN_BOTH = (False, False, False, True)
IN_FIRST_ONLY = (False, False, True, False)
IN_ONE_ONLY = (False, True, True, False)

# States of a table that is given.
MOST_STATES = 60


def is_ascending(word):
    """Whether each letter of a word is greater than the one before."""
    return all([left < right for left, right in zip(word, word[1:])])


def are_moves(value, entries, number):
    """Whether any value is a tuple of moves with so many entries each, between so many states."""
    if not isinstance(value, tuple):
        return False
    seen = {}
    for move in value:
        if not isinstance(move, tuple) or len(move) != entries:
            return False
        letters = move[0]
        if not is_text(letters) or letters == "" or not is_ascending(letters):
            return False
        if not is_integer_in(move[1], 0, number - 1) or any([letter in seen for letter in letters]):
            return False
        for letter in letters:
            seen[letter] = True
    return True


def is_table(value):
    """Whether any value is a table of a set."""
    if not isinstance(value, tuple) or not 1 <= len(value) <= MOST_STATES:
        return False
    for state in value:
        if not isinstance(state, tuple) or len(state) != 2 or not isinstance(state[0], bool):
            return False
        if not are_moves(state[1], 2, len(value)):
            return False
    return True


def words_of(table):
    """The letters of all moves of a table."""
    return [letters for _, moves in table for letters, _ in moves]


def rows_of(table, classes):
    """The rows of a table, its classes ascending."""
    firsts = {letters[0]: index for index, letters in enumerate(classes)}
    rows = []
    for _, moves in table:
        pairs = sorted([(firsts[letter], index) for word, index in moves for letter in word if letter in firsts])
        rows.append({index: target for index, target in pairs})
    return rows


def ends_of(table):
    """For each state of a table whether a text may end there."""
    return [is_in for is_in, _ in table]


def arrows_of(rows):
    """The arrows (source, class, target) of some rows."""
    return [(source, index, target) for source, row in enumerate(rows) for index, target in row.items()]


def moves_of(row, block, classes):
    """Ascending tuples (letters, block): the moves that rows tell, states of one block taken for one."""
    groups = grouped([(block[target], classes[index]) for index, target in row.items()])
    moves = [("".join(sorted("".join(groups[number]))), number) for number in groups]
    return sorted(moves)


def least_table(classes, ends, rows):
    """The least table of what these tell, from state 0 on."""
    goals = [state for state, is_in in enumerate(ends) if is_in]
    alive = leading(len(rows), arrows_of(rows), goals)
    if not alive[0]:
        return NOTHING
    kept = [{index: row[index] for index in row if alive[row[index]]} for row in rows]
    keys = [(ends[state], tuple(list(row))) for state, row in enumerate(kept)]
    block = blocks_of(keys, arrows_of(kept))
    # One state of each block stands for all of it.
    state_of = {number: state for state, number in enumerate(block)}
    moves = {number: moves_of(kept[state_of[number]], block, classes) for number in state_of}
    targets = {number: [target for _, target in moves[number]] for number in moves}
    numbers = numbers_from_first(targets, block[0])
    return tuple([
        (ends[state_of[number]], tuple([(letters, numbers[target]) for letters, target in moves[number]]))
        for number in numbers
    ])


def least_of(table):
    """The least table of a table."""
    classes = classes_of(words_of(table))
    return least_table(classes, ends_of(table), rows_of(table, classes))


def counts(wanted, is_in, is_in_other):
    """Whether a text counts that is in the first set, in the second set, or not."""
    if is_in:
        return wanted[3] if is_in_other else wanted[2]
    return wanted[1] if is_in_other else wanted[0]


def combined(one, other, wanted):
    """The least table of the texts that count by where they are: wanted is IN_ANY or one of its like."""
    classes = classes_of(words_of(one) + words_of(other))
    # Behind a missing move stands a state that leads nowhere.
    rows = [*rows_of(one, classes), {}]
    ends = [*ends_of(one), False]
    other_rows = [*rows_of(other, classes), {}]
    other_ends = [*ends_of(other), False]
    numbers = {(0, 0): 0}
    pairs = [(0, 0)]
    told = []
    while len(told) < len(pairs):
        left, right = pairs[len(told)]
        row = {}
        for index in range(len(classes)):
            pair = (rows[left].get(index, len(one)), other_rows[right].get(index, len(other)))
            if pair not in numbers:
                numbers[pair] = len(numbers)
                pairs.append(pair)
            row[index] = numbers[pair]
        told.append(row)
    return least_table(classes, [counts(wanted, ends[left], other_ends[right]) for left, right in pairs], told)


def table_of_texts(texts):
    """The least table of the set of these texts."""
    classes = classes_of([letter for text in texts for letter in text])
    homes = homes_of(classes)
    # From a state and a class to the state behind, so that texts share their beginnings.
    steps_on = {}
    ends = [False]
    for text in texts:
        state = 0
        for letter in text:
            step = (state, homes[letter])
            if step not in steps_on:
                steps_on[step] = len(ends)
                ends.append(False)
            state = steps_on[step]
        ends[state] = True
    pairs = grouped([(state, (index, steps_on[state, index])) for state, index in steps_on])
    rows = [{index: target for index, target in pairs.get(state, [])} for state in range(len(ends))]
    return least_table(classes, ends, rows)


def table_of_having(word):
    """The least table of the set of all texts in which the word has a place."""
    classes = classes_of(list(word))
    homes = homes_of(classes)
    rows = [{index: int(index == homes[word[0]]) for index in range(len(classes))}]
    # The state of the longest end of what is read, but not all of it, with which the word begins.
    behind = 0
    for number, letter in list(enumerate(word))[1:]:
        row = rows[behind]
        rows.append({**row, homes[letter]: number + 1})
        behind = row[homes[letter]]
    rows.append({index: len(word) for index in range(len(classes))})
    return least_table(classes, [number == len(word) for number in range(len(word) + 1)], rows)


def table_of_all(letters):
    """The least table of the set of all texts that are made of these letters alone."""
    if letters == "":
        return ((True, ()),)
    return ((True, (("".join(sorted(letters)), 0),)),)


def first_text(table):
    """The first text of the set of a least table, or None."""
    texts = {0: ""}
    met = [0]
    done = 0
    while done < len(met):
        state = met[done]
        is_in, moves = table[state]
        if is_in:
            return texts[state]
        for letters, target in moves:
            if target not in texts:
                # The moves ascend: so of several texts of one length the least comes first.
                texts[target] = texts[state] + letters[0]
                met.append(target)
        done += 1
    return None


def size_of(table):
    """How many texts are in the set of a least table, None if infinitely many."""
    ahead = [0 for _ in table]
    for _, moves in table:
        for _, target in moves:
            ahead[target] = ahead[target] + 1
    many = [int(state == 0) for state in range(len(table))]
    free = [state for state in range(len(table)) if ahead[state] == 0]
    done = 0
    while done < len(free):
        state = free[done]
        for letters, target in table[state][1]:
            many[target] = many[target] + many[state] * len(letters)
            ahead[target] = ahead[target] - 1
            if ahead[target] == 0:
                free.append(target)
        done += 1
    # What is left over lies on a cycle, or behind one.
    if done < len(table):
        return None
    return sum([many[state] for state in range(len(table)) if table[state][0]])


def letters_of(table):
    """The letters that stand in texts of the set of a least table, ascending."""
    seen = {letter: True for letters in words_of(table) for letter in letters}
    return "".join(sorted(list(seen)))


def led_by(table, state, text):
    """The state to which a text leads from a state, None if a move is missing or the state itself is None."""
    for letter in text:
        if state is None:
            return None
        targets = [target for letters, target in table[state][1] if letter in letters]
        state = targets[0] if targets else None
    return state


def leads_to(table, text):
    """Whether the text is in the set of a table."""
    state = led_by(table, 0, text)
    return state is not None and table[state][0]


def count_of(table, number, letters):
    """How many texts with so many letters, all among these, are in the set of a table."""
    many = {0: 1}
    for _ in range(number):
        behind = {}
        for state in many:
            for word, target in table[state][1]:
                chosen = len([letter for letter in word if letter in letters])
                behind[target] = behind.get(target, 0) + many[state] * chosen
        many = behind
    return sum([many[state] for state in many if table[state][0]])
