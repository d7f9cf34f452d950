"""Unlike texts with one result."""

from anchoredits.cores import ITSELF, endings_of, rows_written
from anchoredits.parting import exact_classes, lead_behind

# The state of a text that has ended.
ENDED = -1


def steps_from(table):
    """For each state how a text may go on: tuples (letter, state behind, what is written), "" and ENDED in the end.

    Of letters that are only copied one stands for all: if two texts differ in such letters alone, their results do.
    """
    classes = exact_classes(table, table)
    told = []
    for ending, row in zip(endings_of(table), rows_written(table, classes)):
        rows = [] if ending is None else [("", ENDED, ending)]
        for index in row:
            letter = classes[index][0]
            rows.append((letter, row[index][0], row[index][1].replace(ITSELF, letter)))
        told.append(rows)
    return told


def texts_from(rows, first):
    """A dict from each state that is met from the first one, and perhaps ENDED, to a shortest text to it."""
    texts = {first: ""}
    met = [first]
    done = 0
    while done < len(met):
        state = met[done]
        for letter, target, _ in rows[state] if state != ENDED else []:
            if target not in texts:
                texts[target] = texts[state] + letter
                met.append(target)
        done += 1
    return texts


def forks(rows):
    """A dict from each (state, state, lead) behind two texts that differ in their last letter alone to these texts."""
    texts = texts_from(rows, 0)
    found = {}
    for state in [state for state in texts if state != ENDED]:
        for place, (letter, target, text) in enumerate(rows[state]):
            for other_letter, other_target, other_text in rows[state][place + 1:]:
                lead = lead_behind(("", ""), text, other_text)
                key = (target, other_target, lead)
                if lead is not None and key not in found:
                    found[key] = (texts[state] + letter, texts[state] + other_letter)
    return found


def pairs_behind(rows, key, texts):
    """Pairs (key, texts): how that text goes on whose result is behind, or the first one if none is."""
    left, right, lead = key
    if left != ENDED and lead[0] == "":
        told = [((target, right, lead_behind(lead, text, "")), letter, "") for letter, target, text in rows[left]]
    elif right != ENDED and lead[1] == "":
        told = [((left, target, lead_behind(lead, "", text)), "", letter) for letter, target, text in rows[right]]
    else:
        told = []
    return [(behind, (texts[0] + one, texts[1] + other)) for behind, one, other in told if behind[2] is not None]


def two_with_one_result(table):
    """Two unlike texts for which a machine, told by its least table, has one result; None without such."""
    rows = steps_from(table)
    found = forks(rows)
    waiting = list(found)
    done = 0
    while done < len(waiting):
        key = waiting[done]
        if key[0] == key[1] and key[2] == ("", ""):
            rest = texts_from(rows, key[0])[ENDED]
            return found[key][0] + rest, found[key][1] + rest
        for behind, texts in pairs_behind(rows, key, found[key]):
            if behind not in found:
                found[behind] = texts
                waiting.append(behind)
        done += 1
    return None
