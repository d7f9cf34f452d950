"""Letters and states that are alike, for the tables of sets and of machines.

Operators and properties call these functions: so each one changes only what it has made itself.
"""

from anchoredits.letters import LETTERS


def classes_of(words):
    """The classes of letters that none of these words tells apart, by their first letters."""
    unlike = list({word: True for word in words})
    classes = {}
    for letter in LETTERS:
        key = tuple([letter in word for word in unlike])
        classes[key] = classes.get(key, "") + letter
    return list(classes.values())


def homes_of(classes):
    """A dict from each letter to the index of its class."""
    return {letter: index for index, letters in enumerate(classes) for letter in letters}


def numbered(keys):
    """For each key its number: equal keys have one number, and new keys the next one."""
    numbers = {}
    told = []
    for key in keys:
        if key not in numbers:
            numbers[key] = len(numbers)
        told.append(numbers[key])
    return told


def grouped(pairs):
    """A dict from each first entry of these pairs to the list of the second ones, all ascending."""
    groups = {}
    group = []
    last = None
    for key, value in sorted(pairs):
        if group and key != last:
            groups[last] = group
            group = []
        group.append(value)
        last = key
    if group:
        groups[last] = group
    return groups


def leading(number, arrows, goals):
    """For each of so many states whether arrows (source, label, target) lead from it to a goal."""
    back = grouped([(target, source) for source, _, target in arrows])
    leads = [False for _ in range(number)]
    waiting = list(goals)
    for goal in goals:
        leads[goal] = True
    while waiting:
        goal = waiting.pop()
        for source in back.get(goal, []):
            if not leads[source]:
                leads[source] = True
                waiting.append(source)
    return leads


def blocks_of(keys, arrows):
    """For each state the number of its block: states of one block are alike.

    These have equal keys, and arrows (source, label, target) with one label lead from them to one block.
    States with equal keys must have arrows with the same labels.
    """
    block = list(numbered(keys))
    members = dict(grouped([(number, state) for state, number in enumerate(block)]))
    into = grouped([(target, (label, source)) for source, label, target in arrows])
    waiting = list(members)
    while waiting:
        splitter = waiting.pop()
        sources = grouped([row for state in members[splitter] for row in into.get(state, [])])
        for label in sources:
            hit = grouped([(block[source], source) for source in sources[label]])
            for number in hit:
                inside = {state: True for state in hit[number]}
                others = [state for state in members[number] if state not in inside]
                if not others:
                    continue
                # The smaller half is the new block. It is enough to look at this one, unless the whole still waits; and
                # then the other half waits under the old number.
                less, more = hit[number], others
                if len(less) > len(more):
                    less, more = more, less
                fresh = len(members)
                members[number] = more
                members[fresh] = less
                for state in less:
                    block[state] = fresh
                waiting.append(fresh)
    return block


def numbers_from_first(targets, first):
    """A dict from each state that is met from the first one to its number.

    targets is a list of the states behind each state, in the order in which they are met.
    """
    numbers = {first: 0}
    met = [first]
    done = 0
    while done < len(met):
        state = met[done]
        for target in targets[state]:
            if target not in numbers:
                numbers[target] = len(numbers)
                met.append(target)
        done += 1
    return numbers
