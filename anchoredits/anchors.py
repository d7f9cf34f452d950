"""Words that stand once around a place, and those that stay right whatever other edits are done first.

A result is a tuple (way, text, entries): a way, the text to which it leads, and the origins of its letters.
"""

from anchoredits.composing import composed, domain_of
from anchoredits.doing import puts_of, text_behind
from anchoredits.edits import Once
from anchoredits.errors import InvalidSpot
from anchoredits.fitness import check_bounded, check_lengths
from anchoredits.integers import is_integer_in
from anchoredits.limits import MAX_WORD
from anchoredits.origins import origins_behind
from anchoredits.programs import Program
from anchoredits.scanners import table_of_edit, table_of_program
from anchoredits.tables import IN_ANY, IN_BOTH, IN_FIRST_ONLY, NOTHING, combined, first_text


def check_spot(text, first, last):
    """Raise the first error that is due for a spot."""
    if not is_integer_in(first, 0, len(text)):
        raise InvalidSpot(first)
    if not is_integer_in(last, first, len(text)):
        raise InvalidSpot(last)


def stands_twice(text, word):
    """Whether a word has more than one place in a text."""
    return text.find(word, text.find(word) + 1) >= 0


def stands_once(text, word):
    """Whether a word has exactly one place in a text."""
    return word in text and not stands_twice(text, word)


def longer_results(results, edits):
    """The results behind one more edit of each of these, in the same order."""
    told = []
    for way, text, entries in results:
        for index, edit in enumerate(edits):
            if index not in way and stands_once(text, edit.old):
                puts = puts_of(edit, index, text)
                told.append(((*way, index), text_behind(text, puts), origins_behind(entries, puts, index)))
    return told


def all_results(text, edits):
    """The results of all ways, those with fewer edits first, then ascending."""
    told = []
    results = [((), text, list(range(len(text))))]
    while results:
        told.extend(results)
        results = longer_results(results, edits)
    return told


def ways(text, edits):
    """All ways, those with fewer edits first, then ascending."""
    results = [((), text, list(range(len(text))))]
    while results:
        for way, _, _ in results:
            yield way
        results = longer_results(results, edits)


def outcomes(text, edits):
    """A dict from each text to which a way leads to the first such way."""
    firsts = {}
    for way, result, _ in all_results(text, edits):
        if result not in firsts:
            firsts[result] = way
    return {result: firsts[result] for result in sorted(list(firsts))}


def kept_ends(entries, length):
    """For each begin the greatest end up to which all letters of a text of this length are kept in a result.

    Kept letters that were neighbours still are: what an edit puts stands in the place of letters that go.
    """
    kept = {entry: True for entry in entries if not isinstance(entry, tuple)}
    ends = list(range(length + 1))
    for begin in reversed(range(length)):
        if begin in kept:
            ends[begin] = ends[begin + 1]
    return ends


def stands_twice_in_one(texts, word):
    """Whether a word has more than one place in one of these texts."""
    for text in texts:
        if stands_twice(text, word):
            return True
    return False


def least_windows(text, first, last, results):
    """The windows around a spot that stand once in all these results, as they are, with no smaller one within."""
    texts = list({result: True for _, result, _ in results})
    all_ends = [kept_ends(entries, len(text)) for _, _, entries in results]
    told = []
    end = 0
    for begin in range(min(first + 1, len(text))):
        # A window that begins further on ends no earlier, so the end is never set back.
        end = max(end, begin + 1, last)
        most = min([ends[begin] for ends in all_ends])
        while end <= most and stands_twice_in_one(texts, text[begin:end]):
            end += 1
        if end <= most:
            if told and told[-1][1] == end:
                told.pop()
            told.append((begin, end))
    return told


def windows(text, first, last):
    """All windows around a spot that stand once and have no smaller such window around the spot within them."""
    check_spot(text, first, last)
    return least_windows(text, first, last, all_results(text, []))


def edit_at(text, first, last, new):
    """The Once with the shortest window around a spot that puts a text in the place of the spot's, or None."""
    found = windows(text, first, last)
    if not found:
        return None
    begin, end = min(found, key=lambda window: window[1] - window[0])
    put = text[begin:first] + new + text[last:end]
    if end - begin > MAX_WORD or len(put) > MAX_WORD:
        return None
    return Once(text[begin:end], put)


def steady(text, first, last, edits):
    """All steady windows around a spot that have no smaller steady window around the spot within them."""
    check_spot(text, first, last)
    return least_windows(text, first, last, all_results(text, edits))


def breaker(text, begin, end, edits):
    """The first way after which a window does not stand once as the same letters, or None."""
    for way, result, entries in all_results(text, edits):
        if kept_ends(entries, len(text))[begin] < end or stands_twice(result, text[begin:end]):
            return way
    return None


def spoiled_by(edit, program):
    """The least table of the set of texts for which a program is right, but a Once is not right for the result."""
    table = table_of_program(program)
    right_behind = domain_of(composed(table, table_of_edit(edit)))
    return combined(domain_of(table), right_behind, IN_FIRST_ONLY)


def right_for(edit):
    """The least table of the set of texts for which an edit is right."""
    return domain_of(table_of_edit(edit))


def stays(edit, program):
    """The first text for which a Once and a program are right, but the Once is not right for the result; or None."""
    check_bounded(program.edits)
    check_lengths([edit, *program.edits])
    return first_text(combined(right_for(edit), spoiled_by(edit, program), IN_BOTH))


def spoiled(edit, others):
    """(text, way): the first text for which a Once and others are right, but the Once is not after a way; or None."""
    check_lengths([edit, *others])
    wrong = NOTHING
    for place, other in enumerate(others):
        behind = [[other, last] for index, last in enumerate(others) if index != place]
        for way in [[other], *behind]:
            wrong = combined(wrong, spoiled_by(edit, Program(*way)), IN_ANY)
    for once in [edit, *others]:
        wrong = combined(wrong, right_for(once), IN_BOTH)
    text = first_text(wrong)
    if text is None:
        return None
    broken = [way for way, result, _ in all_results(text, others) if not stands_once(result, edit.old)]
    return (text, broken[0])
