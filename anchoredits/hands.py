"""Several hands that change one text."""

from itertools import combinations

from anchoredits.covers import least_cover
from anchoredits.doing import text_behind
from anchoredits.errors import Clash, InvalidHand, InvalidProgram, InvalidText, NotRight, TooMany
from anchoredits.exchanges import first_wrong
from anchoredits.hunking import clashing, gaps, moved
from anchoredits.integers import is_integer_in
from anchoredits.letters import is_text
from anchoredits.limits import MAX_HANDS
from anchoredits.origins import origins
from anchoredits.programs import Program


def origins_of_hunks(program, text):
    """A dict from each hunk of what a program does to a text, ascending, to the origins of the letters that it puts."""
    entries = origins(program, text)
    result = program.run(text)
    found = gaps(len(text), entries)
    return {(first, last, result[begin:end]): entries[begin:end] for first, last, begin, end in found}


def hunks(program, text):
    """All hunks of what a program does to a text, ascending."""
    return list(origins_of_hunks(program, text))


def check_programs(text, programs):
    """Raise the first error that is due for the hands of a text."""
    for index, program in enumerate(programs):
        if not isinstance(program, Program):
            raise InvalidProgram(index)
    if len(programs) > MAX_HANDS:
        raise TooMany(MAX_HANDS)
    for hand, program in enumerate(programs):
        if not program.is_right(text):
            raise NotRight(hand)


def all_clashes(found):
    """All (hand, hunk, hand2, hunk2) that clash, ascending; found has the hunks of each hand."""
    told = []
    for hand, other in combinations(range(len(found)), 2):
        told.extend([(hand, hunk, other, met) for hunk, met in clashing(list(found[hand]), list(found[other]))])
    return tuple(sorted(told))


def new_of_window(text, begin, end, chosen):
    """The letters of a window with hunks that lie in it done."""
    return text_behind(text[begin:end], [(first - begin, last - begin, new) for first, last, new in chosen])


def shared_out(windows, done):
    """For each window the hunks that end in it, and in no earlier one. A window may have entries behind its end."""
    told = []
    place = 0
    for window in windows:
        chosen = []
        while place < len(done) and done[place][1] <= window[1]:
            chosen.append(done[place])
            place += 1
        told.append(chosen)
    return told


def exchange_for(text, done):
    """The exchange with the fewest letters that does hunks of a text, None if there is none."""
    windows = least_cover(text, [(first, last) for first, last, _ in done])
    if windows is None:
        return None
    pairs = list(zip(windows, shared_out(windows, done)))
    return tuple([(begin, end, new_of_window(text, begin, end, chosen)) for (begin, end), chosen in pairs])


def does_all(text, exchange, done):
    """Whether each part of an exchange for a text does some of these hunks, and all together do each of them once.

    The hunks are those of a program: so each leaves out a letter, and lies in one window only.
    """
    shared = shared_out(exchange, done)
    for (begin, end, new), chosen in zip(exchange, shared):
        if not chosen or chosen[0][0] < begin or new_of_window(text, begin, end, chosen) != new:
            return False
    return sum([len(chosen) for chosen in shared]) == len(done)


class Merge:
    """Several hands that change one text, each by a program."""

    def __init__(self, text, *programs):
        if not is_text(text):
            raise InvalidText(text)
        check_programs(text, programs)
        self._text = text
        # For each hand a dict from its hunks to the origins of the letters that they put.
        self._found = [origins_of_hunks(program, text) for program in programs]
        self._clashes = all_clashes(self._found)

    @property
    def text(self):
        return self._text

    @property
    def hands(self):
        return len(self._found)

    @property
    def clashes(self):
        return self._clashes

    def _clashing_pairs(self):
        """All pairs of hands that clash, the lesser one in front, ascending."""
        return sorted(list({(hand, other): True for hand, _, other, _ in self._clashes}))

    def _check_hands(self, hands):
        """Raise the first error that is due for some hands."""
        for index, hand in enumerate(hands):
            if not is_integer_in(hand, 0, self.hands - 1) or hand in hands[:index]:
                raise InvalidHand(hand)
        for hand, other in self._clashing_pairs():
            if hand in hands and other in hands:
                raise Clash(hand, other)

    def peaceful(self):
        """The sets of hands of which no two clash, and that are not part of another such set."""
        enemies = {hand: [] for hand in range(self.hands)}
        for hand, other in self._clashing_pairs():
            enemies[hand].append(other)
            enemies[other].append(hand)
        chosen = [()]
        for hand in enemies:
            chosen = chosen + [(*some, hand) for some in chosen if not any([one in enemies[hand] for one in some])]
        told = []
        for some in chosen:
            others = [hand for hand in enemies if hand not in some]
            if all([any([one in enemies[hand] for one in some]) for hand in others]):
                told.append(some)
        return sorted(told, key=lambda hands: (-len(hands), hands))

    def hunks_of(self, *hands):
        """The hunks of some hands, ascending, without duplicates."""
        self._check_hands(hands)
        return sorted(list({hunk: True for hand in hands for hunk in self._found[hand]}))

    def together(self, *hands):
        """The text with some hands done."""
        return text_behind(self._text, self.hunks_of(*hands))

    def origins_of(self, *hands):
        """For each letter of the text with some hands done its index, or (hand, edit, part, place) if it was put."""
        told = []
        kept = 0
        for hunk in self.hunks_of(*hands):
            told.extend(list(range(kept, hunk[0])))
            hand = min([one for one in hands if hunk in self._found[one]])
            told.extend([(hand, *origin) for origin in self._found[hand][hunk]])
            kept = hunk[1]
        told.extend(list(range(kept, len(self._text))))
        return tuple(told)

    def _hunks_over(self, hand, others):
        """The hunks that a hand has, but none of the others, as they lie in the text with the others done."""
        self._check_hands((hand, *others))
        done = self.hunks_of(*others)
        return moved([hunk for hunk in self._found[hand] if hunk not in done], done)

    def _hunks_back(self, hand, others):
        """The opposites of the hunks that a hand has, but none of the others, in the text with all of them done."""
        everything = self.hunks_of(hand, *others)
        done = self.hunks_of(*others)
        own = [hunk for hunk in self._found[hand] if hunk not in done]
        places = [first for first, _, _ in moved(own, everything)]
        return [(place, place + len(new), self._text[first:last]) for place, (first, last, new) in zip(places, own)]

    def led_over(self, hand, *others):
        """An exchange by which a hand does its hunks in the text with the others done, None if there is none."""
        done = self._hunks_over(hand, others)
        return exchange_for(self.together(*others), done)

    def led_back(self, hand, *others):
        """An exchange by which a hand is taken back, in the text with it and the others done, None if there is none."""
        done = self._hunks_back(hand, others)
        return exchange_for(self.together(hand, *others), done)

    def is_led(self, hand, others, value):
        """Whether any value is an exchange by which a hand does its hunks in the text with the others done."""
        done = self._hunks_over(hand, others)
        text = self.together(*others)
        return first_wrong(text, value) is None and does_all(text, value, done)
