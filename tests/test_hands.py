import itertools
import random
import unittest

from anchoredits.edits import AtOnce, Every, First, Once, Perhaps
from anchoredits.errors import Clash, InvalidHand, InvalidProgram, InvalidText, NoPlace, NotRight, Overlap, TooMany
from anchoredits.exchanges import exchanged, is_exchange
from anchoredits.hands import Merge, hunks
from anchoredits.origins import origins
from anchoredits.programs import Program

from samples import NO_STRINGS, NO_TEXTS, begins_at, naive_outcome, raised, random_programs

KINDS = [Once, First, Perhaps, Every, AtOnce]


def naive_hunks(program, text):
    """The hunks as promise 60 tells them: gap by gap."""
    entries = origins(program, text)
    result = naive_outcome(program, text)
    kept = [place for place, entry in enumerate(entries) if type(entry) is int]
    told = []
    for left, right in zip([None, *kept], [*kept, None]):
        first = 0 if left is None else entries[left] + 1
        last = len(text) if right is None else entries[right]
        new = result[0 if left is None else left + 1:len(result) if right is None else right]
        if first < last or new:
            told.append((first, last, new))
    return told


def meet(hunk, other):
    return hunk[0] <= other[1] and other[0] <= hunk[1]


def clash(merge_hunks, hand, other):
    return any(meet(one, two) and one != two for one in merge_hunks[hand] for two in merge_hunks[other])


def naive_done(text, done):
    for first, last, new in reversed(sorted(done)):
        text = text[:first] + new + text[last:]
    return text


def letters_of(exchange):
    return sum(end - begin + len(new) for begin, end, new in exchange)


def all_led(text, done):
    """All exchanges of a text that do hunks of it in the way of promise 64; done has their spots in the text."""
    windows = [(begin, end) for begin in range(len(text)) for end in range(begin + 1, len(text) + 1)
               if len(begins_at(text, text[begin:end])) == 1]
    told = []

    def lies_in(hunk, window):
        return window[0] <= hunk[0] and hunk[1] <= window[1]

    def go_on(parts, rest, end):
        """parts: tuples (window, its hunks)."""
        if not rest:
            told.append(parts)
        for number in range(1, len(rest) + 1):
            for window in windows:
                if window[0] >= end and all(lies_in(hunk, window) for hunk in rest[:number]):
                    go_on([*parts, (window, rest[:number])], rest[number:], window[1])

    def is_right(parts):
        for window, inside in parts:
            for hunk in done:
                if hunk not in inside and lies_in(hunk, window):
                    # Only an empty spot where this window and that in which it is done touch.
                    others = [other for other, hunks_there in parts if hunk in hunks_there]
                    if hunk[0] != hunk[1] or hunk[0] not in window or hunk[0] not in others[0]:
                        return False
        return True

    go_on([], done, 0)
    return [tuple((begin, end, naive_done(text[begin:end], [(first - begin, last - begin, new)
                                                            for first, last, new in inside]))
                  for (begin, end), inside in parts) for parts in told if is_right(parts)]


def spots_over(merge_hunks, hand, others):
    """The hunks of a hand that none of the others has, as they lie in the text with the others done."""
    done = {hunk for other in others for hunk in merge_hunks[other]}
    told = []
    for first, last, new in merge_hunks[hand]:
        if (first, last, new) not in done:
            shift = sum(len(put) - (end - begin) for begin, end, put in done if begin < first)
            told.append((first + shift, last + shift, new))
    return told


def random_merge(chance, most=6, number=4):
    letters = chance.choice(["ab", "abc", "abcd"])
    text = "".join(chance.choice(letters) for _ in range(chance.randint(0, most)))
    programs = [program for program in random_programs(chance, letters, 4 * number, KINDS)
                if naive_outcome(program, text) is not None]
    return text, programs[:chance.randint(0, number)]


class HunksTest(unittest.TestCase):
    def test_ordinary(self):
        self.assertEqual(hunks(Program(), "abc"), [])
        self.assertEqual(hunks(Program(), ""), [])
        self.assertEqual(hunks(Program(Once("a", "x")), "abc"), [(0, 1, "x")])
        self.assertEqual(hunks(Program(Once("c", "")), "abc"), [(2, 3, "")])
        self.assertEqual(hunks(program=Program(Once("abc", "")), text="abc"), [(0, 3, "")])
        self.assertEqual(hunks(Program(Once("a", ""), Once("c", "xy")), "abc"), [(0, 1, ""), (2, 3, "xy")])
        self.assertEqual(hunks(Program(Every("a", "b")), "abaa"), [(0, 1, "b"), (2, 4, "bb")])

    def test_letters_put_for_themselves(self):
        self.assertEqual(hunks(Program(Once("ab", "ab")), "cabc"), [(1, 3, "ab")])
        self.assertEqual(hunks(Program(Every("a", "a")), "aba"), [(0, 1, "a"), (2, 3, "a")])

    def test_several_edits(self):
        # What is put goes again, wholly or in part.
        self.assertEqual(hunks(Program(Once("b", "xy"), Once("xy", "")), "abc"), [(1, 2, "")])
        self.assertEqual(hunks(Program(Once("b", "xy"), Once("y", "")), "abc"), [(1, 2, "x")])
        self.assertEqual(hunks(Program(Once("b", "xy"), Once("yc", "z")), "abc"), [(1, 3, "xz")])
        self.assertEqual(hunks(Program(AtOnce(("a", "1"), ("b", "2")), Once("d", "3")), "abcd"), [(0, 2, "12"), (3, 4, "3")])

    def test_beside_the_words_of_the_document(self):
        chance = random.Random(61)
        some = 0
        for _ in range(800):
            text, programs = random_merge(chance, 8)
            for program in programs:
                told = hunks(program, text)
                self.assertEqual(told, naive_hunks(program, text))
                self.assertEqual(naive_done(text, told), program.run(text))
                self.assertIs(type(told), list)
                for hunk in told:
                    self.assertEqual([type(part) for part in hunk], [int, int, str])
                    self.assertIs(type(hunk), tuple)
                some += len(told) > 1
        self.assertGreater(some, 60)

    def test_errors_of_run(self):
        told = raised(self, NoPlace, hunks, Program(Once("a", "b"), Once("b", "")), "abb")
        self.assertEqual([told.index, told.number], [1, 3])
        self.assertEqual(raised(self, Overlap, hunks, Program(AtOnce(("ab", ""), ("bc", ""))), "abc").index, 0)
        for value in NO_STRINGS + NO_TEXTS:
            self.assertIs(raised(self, InvalidText, hunks, Program(Once("a", "b")), value).value, value)


class MergeTest(unittest.TestCase):
    def test_examples(self):
        merge = Merge("one two two", Program(Once("one", "1")), Program(First("two", "2")), Program(Every("two", "2")))
        self.assertEqual([merge.together(0, 1), merge.clashes, merge.together(0, 1, 2), merge.peaceful()],
                         ["1 2 two", (), "1 2 2", [(0, 1, 2)]])
        self.assertEqual([merge.hunks_of(0, 2), merge.led_over(2, 0, 1), merge.led_back(0, 2)],
                         [[(0, 3, "1"), (4, 7, "2"), (8, 11, "2")], ((4, 7, "2"),), ((0, 1, "one"),)])

    def test_properties(self):
        merge = Merge("abc", Program(), Program(Once("a", "b")))
        self.assertEqual([merge.text, merge.hands], ["abc", 2])
        self.assertEqual([Merge("").text, Merge(text="").hands], ["", 0])
        self.assertIs(type(merge.clashes), tuple)
        self.assertEqual(Merge("a", *[Program()] * 4).hands, 4)
        self.assertNotEqual(Merge("a"), "a")

    def test_errors_in_their_order(self):
        right, wrong = Program(Once("a", "b")), Program(Once("b", "a"))
        for value in NO_STRINGS + NO_TEXTS:
            self.assertIs(raised(self, InvalidText, Merge, value).value, value)
            self.assertIs(raised(self, InvalidText, Merge, value, None, *[wrong] * 5).value, value)
        for value in NO_STRINGS + ["", "a", Once("a", "b"), [right], (right,), {0: right}]:
            self.assertEqual(raised(self, InvalidProgram, Merge, "a", value).index, 0)
            self.assertEqual(raised(self, InvalidProgram, Merge, "a", right, value, value).index, 1)
            self.assertEqual(raised(self, InvalidProgram, Merge, "a", wrong, right, right, right, right, value).index, 5)
        self.assertEqual(raised(self, TooMany, Merge, "a", *[right] * 5).limit, 4)
        self.assertEqual(raised(self, TooMany, Merge, "a", *[wrong] * 6).limit, 4)
        for number in range(4):
            told = raised(self, NotRight, Merge, "a", *[right] * number, wrong, *[wrong] * (3 - number))
            self.assertEqual(told.hand, number)
            self.assertIs(type(told.hand), int)
        self.assertEqual(raised(self, NotRight, Merge, "abc", right, Program(AtOnce(("ab", ""), ("bc", "")))).hand, 1)

    def test_clashes(self):
        # Touching, equal, overlapping and neither.
        merge = Merge("abcdef", Program(Once("b", "x")), Program(Once("c", "y")), Program(Once("b", "x")),
                      Program(Once("bcd", "z")))
        self.assertEqual(merge.clashes, (
            (0, (1, 2, "x"), 1, (2, 3, "y")), (0, (1, 2, "x"), 3, (1, 4, "z")), (1, (2, 3, "y"), 2, (1, 2, "x")),
            (1, (2, 3, "y"), 3, (1, 4, "z")), (2, (1, 2, "x"), 3, (1, 4, "z"))))
        self.assertEqual(Merge("abc", Program(Once("a", "x")), Program(Once("c", "y"))).clashes, ())
        # Where just one reads alike: what is put is not equal.
        self.assertEqual(len(Merge("abc", Program(Once("a", "x")), Program(Once("a", "y"))).clashes), 1)
        self.assertEqual(len(Merge("abc", Program(Once("ab", "x")), Program(Once("a", "x"))).clashes), 1)
        # By hunk ahead of the other hand.
        merge = Merge("abcd", Program(Once("a", "x"), Once("d", "y")), Program(Once("d", "z")), Program(Once("a", "z")))
        self.assertEqual(merge.clashes, ((0, (0, 1, "x"), 2, (0, 1, "z")), (0, (3, 4, "y"), 1, (3, 4, "z"))))

    def test_clashes_and_peaceful_beside_the_words_of_the_document(self):
        chance = random.Random(62)
        numbers = {}
        for _ in range(500):
            text, programs = random_merge(chance, 9)
            merge = Merge(text, *programs)
            found = [naive_hunks(program, text) for program in programs]
            wanted = sorted((hand, hunk, other, met) for hand, other in itertools.combinations(range(len(found)), 2)
                            for hunk in found[hand] for met in found[other] if meet(hunk, met) and hunk != met)
            self.assertEqual(merge.clashes, tuple(wanted))
            quiet = [hands for number in range(len(found) + 1) for hands in itertools.combinations(range(len(found)), number)
                     if not any(clash(found, *pair) for pair in itertools.combinations(hands, 2))]
            quiet = [hands for hands in quiet if not any(set(hands) < set(other) for other in quiet)]
            self.assertEqual(merge.peaceful(), sorted(quiet, key=lambda hands: (-len(hands), hands)))
            numbers[len(quiet)] = numbers.get(len(quiet), 0) + 1
        self.assertGreater(min(numbers.get(number, 0) for number in (1, 2, 3)), 5)

    def test_peaceful(self):
        def one(new):
            return Program(Once("a", new))

        self.assertEqual(Merge("a").peaceful(), [()])
        self.assertEqual(Merge("a", one("b")).peaceful(), [(0,)])
        self.assertEqual(Merge("a", one("b"), one("c")).peaceful(), [(0,), (1,)])
        self.assertEqual(Merge("a", one("b"), one("c"), one("b")).peaceful(), [(0, 2), (1,)])
        self.assertEqual(Merge("a", one("b"), one("c"), one("c"), one("c")).peaceful(), [(1, 2, 3), (0,)])
        self.assertEqual(Merge("a", one("b"), one("c"), one("d"), one("e")).peaceful(), [(0,), (1,), (2,), (3,)])
        merge = Merge("abcde", Program(Once("a", "1")), Program(Once("c", "2")), Program(Once("abc", "3")),
                      Program(Once("e", "4")))
        self.assertEqual(merge.peaceful(), [(0, 1, 3), (2, 3)])
        merge.peaceful().clear()
        self.assertEqual(merge.peaceful(), [(0, 1, 3), (2, 3)])


class TogetherTest(unittest.TestCase):
    def setUp(self):
        self.merge = Merge("one two six", Program(Once("one", "1")), Program(Once("two", "2")),
                           Program(Once("two", "2"), Once("six", "6")), Program(Once("six", "sixty")))

    def test_ordinary(self):
        merge = self.merge
        self.assertEqual(merge.hunks_of(), [])
        self.assertEqual(merge.together(), "one two six")
        self.assertEqual(merge.origins_of(), tuple(range(11)))
        self.assertEqual(merge.hunks_of(2, 0, 1), [(0, 3, "1"), (4, 7, "2"), (8, 11, "6")])
        self.assertEqual(merge.together(3, 1, 0), "1 2 sixty")
        self.assertEqual(merge.origins_of(1), (0, 1, 2, 3, (1, 0, 0, 0), 7, 8, 9, 10))
        # The least hand of those that are told.
        self.assertEqual(merge.origins_of(2, 1), (0, 1, 2, 3, (1, 0, 0, 0), 7, (2, 1, 0, 0)))
        self.assertEqual(merge.origins_of(2), (0, 1, 2, 3, (2, 0, 0, 0), 7, (2, 1, 0, 0)))
        at_once = Merge("abc", Program(Perhaps("x", ""), AtOnce(("a", ""), ("c", "xy"))))
        self.assertEqual(at_once.origins_of(0), (1, (0, 1, 1, 0), (0, 1, 1, 1)))

    def test_equal_hunks_with_unlike_origins(self):
        merge = Merge("ab", Program(AtOnce(("b", "x"), ("a", "a"))), Program(Once("ab", "axy"), Once("y", "")))
        self.assertEqual([merge.hunks_of(0), merge.hunks_of(1)], [[(0, 2, "ax")]] * 2)
        self.assertEqual(merge.origins_of(1, 0), ((0, 0, 1, 0), (0, 0, 0, 0)))
        self.assertEqual(merge.origins_of(1), ((1, 0, 0, 0), (1, 0, 0, 1)))

    def test_invalid_hands(self):
        merge = self.merge
        wrong = NO_STRINGS + ["", "0", -1, 4, 10 ** 59]
        wrong = [value for value in wrong if type(value) is not int or not 0 <= value < 4]
        for method in (merge.hunks_of, merge.together, merge.origins_of, merge.led_over, merge.led_back):
            for value in wrong:
                self.assertIs(raised(self, InvalidHand, method, value).value, value)
                self.assertIs(raised(self, InvalidHand, method, 0, value).value, value)
                # Ahead of hands that clash, and of what follows.
                self.assertIs(raised(self, InvalidHand, method, 2, 3, value, None).value, value)
            self.assertEqual(raised(self, InvalidHand, method, 0, 0).value, 0)
            self.assertEqual(raised(self, InvalidHand, method, 1, 2, 3, 2, 5).value, 2)
        for value in wrong:
            self.assertIs(raised(self, InvalidHand, merge.is_led, value, [0, None], None).value, value)
            self.assertIs(raised(self, InvalidHand, merge.is_led, 0, [value, None], ()).value, value)
            self.assertIs(raised(self, InvalidHand, merge.is_led, 2, [3, value], ()).value, value)
        self.assertEqual(raised(self, InvalidHand, merge.is_led, 1, [0, 1], ()).value, 1)
        self.assertEqual(raised(self, InvalidHand, Merge("a").together, 0).value, 0)

    def test_first_pair_that_clashes(self):
        def one(new):
            return Program(Once("a", new))

        merge = Merge("abc", Program(Once("c", "")), one("x"), one("y"), one("x"))
        for method in (merge.hunks_of, merge.together, merge.origins_of, merge.led_over, merge.led_back):
            for hands in itertools.permutations((0, 1, 2, 3)):
                told = raised(self, Clash, method, *hands)
                self.assertEqual([told.hand, told.other], [1, 2])
            for hands in itertools.permutations((0, 2, 3)):
                told = raised(self, Clash, method, *hands)
                self.assertEqual([told.hand, told.other], [2, 3])
            method(0, 3, 1)
        told = raised(self, Clash, merge.is_led, 3, [2], None)
        self.assertEqual([told.hand, told.other], [2, 3])
        # (0, 2) ahead of (1, 2).
        merge = Merge("abc", Program(Once("a", "x")), Program(Once("c", "x")), Program(Once("abc", "x")))
        told = raised(self, Clash, merge.together, 2, 1, 0)
        self.assertEqual([told.hand, told.other], [0, 2])
        # By hands, not by hunks.
        merge = Merge("abcd", Program(Once("a", "x"), Once("d", "y")), Program(Once("d", "z")), Program(Once("a", "z")))
        told = raised(self, Clash, merge.together, 2, 1, 0)
        self.assertEqual([told.hand, told.other], [0, 1])

    def test_beside_the_words_of_the_document(self):
        chance = random.Random(63)
        for _ in range(250):
            text, programs = random_merge(chance, 8)
            merge = Merge(text, *programs)
            found = [naive_hunks(program, text) for program in programs]
            for number in range(len(found) + 1):
                for hands in itertools.permutations(range(len(found)), number):
                    if any(clash(found, *pair) for pair in itertools.combinations(hands, 2)):
                        continue
                    done = sorted({hunk for hand in hands for hunk in found[hand]})
                    self.assertEqual(merge.hunks_of(*hands), done)
                    self.assertEqual(merge.together(*hands), naive_done(text, done))
                    entries = merge.origins_of(*hands)
                    self.assertEqual(len(entries), len(merge.together(*hands)))
                    for entry, letter in zip(entries, merge.together(*hands)):
                        if type(entry) is int:
                            self.assertEqual(text[entry], letter)
                        else:
                            hand, *origin = entry
                            self.assertIn(hand, hands)
                            self.assertIn(tuple(origin), origins(programs[hand], text))
                    if number == 1:
                        self.assertEqual(entries, tuple(
                            entry if type(entry) is int else (hands[0], *entry) for entry in origins(programs[hands[0]], text)))


class LedTest(unittest.TestCase):
    def assert_led(self, text, told, done, led_to):
        """That an exchange is one for a text as promise 64 asks for it, with as few letters as possible."""
        found = all_led(text, done)
        if told is None:
            self.assertEqual([text, found], ["", []])
            self.assertTrue(done)
            return
        self.assertTrue(is_exchange(text, led_to, told))
        self.assertIn(told, found)
        self.assertEqual(letters_of(told), min(map(letters_of, found)))

    def test_no_hunks_are_left(self):
        merge = Merge("abc", Program(Once("a", "x")), Program(Once("a", "x")), Program())
        self.assertEqual([merge.led_over(0, 1), merge.led_back(0, 1), merge.led_over(2), merge.led_back(2)], [()] * 4)
        self.assertEqual([merge.is_led(0, [1], ()), merge.is_led(0, [1], ((0, 1, "x"),))], [True, False])
        self.assertEqual([merge.led_over(0), merge.led_back(0)], [((0, 1, "x"),), ((0, 1, "a"),)])

    def test_windows_that_must_grow(self):
        merge = Merge("ab ab x", Program(First("ab", "c")), Program(Once("x", "ab")))
        self.assertEqual(merge.led_over(0), ((0, 4, "c a"),))
        # Behind the other hand "ab a" and "ab ab" stand twice, too.
        self.assertEqual(merge.led_over(0, 1), ((0, 6, "c ab "),))
        self.assert_led("ab ab ab", merge.led_over(0, 1), [(0, 2, "c")], "c ab ab")

    def test_two_hunks_in_one_part(self):
        # A window of its own for each would have the letter between them.
        merge = Merge("xax", Program(Every("x", "y")))
        self.assertEqual(merge.led_over(0), ((0, 3, "yay"),))
        self.assertEqual(Merge("xaax", Program(Every("x", "y"))).led_over(0), ((0, 2, "ya"), (2, 4, "ay")))
        merge = Merge("xaaaaaaax", Program(Every("x", "")))
        self.assertEqual(merge.led_over(0), ((0, 2, "a"), (7, 9, "a")))
        merge = Merge("1xax2", Program(Every("x", "")), Program(Once("1", "a"), Once("2", "")))
        self.assertEqual(merge.clashes[0][:2], (0, (1, 2, "")))
        merge = Merge("axxa", Program(First("a", "b"), First("a", "c")))
        self.assertEqual(merge.led_over(0), ((0, 2, "bx"), (2, 4, "xc")))
        merge = Merge("abab", Program(First("a", "x"), First("b", "y"), First("b", "z")))
        self.assert_led("abab", merge.led_over(0), [(0, 2, "xy"), (3, 4, "z")], "xyaz")

    def test_empty_text(self):
        merge = Merge("a", Program(Once("a", "")))
        self.assertEqual(merge.led_over(0), ((0, 1, ""),))
        self.assertIsNone(merge.led_back(0))
        merge = Merge("", Program(), Program(Perhaps("a", "b")))
        self.assertEqual([merge.led_over(0, 1), merge.led_back(1, 0), merge.together(0, 1)], [(), (), ""])
        self.assertIs(merge.is_led(0, [1], ()), True)

    def test_empty_spots(self):
        # The spot where a hand left all letters out is empty when it is taken back.
        merge = Merge("abc", Program(Once("b", "")))
        told = merge.led_back(0)
        self.assert_led("ac", told, [(1, 1, "b")], "abc")
        self.assertEqual(letters_of(told), 3)
        merge = Merge("abcde", Program(Once("b", ""), Once("d", "")))
        self.assert_led("ace", merge.led_back(0), [(1, 1, "b"), (2, 2, "d")], "abcde")
        self.assertEqual(letters_of(merge.led_back(0)), 4)

    def test_beside_all_exchanges(self):
        chance = random.Random(64)
        over, back, grown = 0, 0, 0
        for _ in range(260):
            text, programs = random_merge(chance, 7, 3)
            merge = Merge(text, *programs)
            found = [naive_hunks(program, text) for program in programs]
            for number in range(1, len(found) + 1):
                for hand, *others in itertools.permutations(range(len(found)), number):
                    if any(clash(found, *pair) for pair in itertools.combinations([hand, *others], 2)):
                        continue
                    spots = spots_over(found, hand, others)
                    base, behind = merge.together(*others), merge.together(hand, *others)
                    told = merge.led_over(hand, *others)
                    self.assert_led(base, told, spots, behind)
                    over += len(spots) > 0
                    grown += told is not None and any(part[:2] not in [spot[:2] for spot in spots] for part in told)
                    opposite = []
                    for place, (first, last, new) in enumerate(spots):
                        moved = first + sum(len(put) - (end - begin) for begin, end, put in spots[:place])
                        opposite.append((moved, moved + len(new), base[first:last]))
                    self.assert_led(behind, merge.led_back(hand, *others), opposite, base)
                    back += len(opposite) > 0
        self.assertGreater(min(over, back, grown), 60)

    def test_all_orders_come_to_the_same_text(self):
        chance = random.Random(65)
        several = 0
        for _ in range(200):
            text, programs = random_merge(chance, 9)
            merge = Merge(text, *programs)
            for hands in merge.peaceful():
                several += len(hands) > 2
                for order in itertools.permutations(hands):
                    result = text
                    for place, hand in enumerate(order):
                        exchange = merge.led_over(hand, *order[:place])
                        if exchange is None:
                            self.assertEqual(result, "")
                            break
                        result = exchanged(result, exchange)
                        self.assertEqual(result, merge.together(*order[:place + 1]))
                        back = merge.led_back(hand, *order[:place])
                        if back is not None:
                            self.assertEqual(exchanged(result, back), merge.together(*order[:place]))
                    else:
                        self.assertEqual(result, merge.together(*hands))
        self.assertGreater(several, 40)

    def test_is_led_beside_all_exchanges(self):
        chance = random.Random(66)
        right, wrong = 0, 0
        for _ in range(120):
            text, programs = random_merge(chance, 6, 3)
            merge = Merge(text, *programs)
            found = [naive_hunks(program, text) for program in programs]
            for hand, *others in [list(hands) for number in (1, 2) for hands in itertools.permutations(range(len(found)), number)]:
                if any(clash(found, hand, other) for other in others):
                    continue
                base = merge.together(*others)
                exchanges = set(all_led(base, spots_over(found, hand, others)))
                for exchange in exchanges:
                    right += 1
                    self.assertIs(merge.is_led(hand, others, exchange), True)
                for exchange in chance.sample(sorted(exchanges), min(len(exchanges), 4)):
                    for value in self.spoiled(base, exchange):
                        wrong += value not in exchanges
                        self.assertIs(merge.is_led(hand, others, value), value in exchanges)
        self.assertGreater(min(right, wrong), 500)

    def spoiled(self, base, exchange):
        """Exchanges with one thing otherwise."""
        for place, (begin, end, new) in enumerate(exchange):
            for part in ((begin, end, new + "a"), (begin, end, new[:-1]), (begin, end, new[1:]), (begin, end, "b" + new),
                         (begin, end, base[begin:end]), (begin, end, ""), (begin + 1, end, new), (begin, end - 1, new),
                         (begin, end + 1, new), (begin - 1, end, new), (begin, end + 1, new + base[end:end + 1]),
                         (begin - 1, end, base[begin - 1:begin] + new), (begin + 1, end, new[1:]), (begin, end - 1, new[:-1])):
                yield exchange[:place] + (part,) + exchange[place + 1:]
            yield exchange[:place] + exchange[place + 1:]
            yield exchange[:place + 1] + exchange[place:]
            if place + 1 < len(exchange):
                after = exchange[place + 1]
                between = base[end:after[0]]
                yield exchange[:place] + ((begin, after[1], new + between + after[2]),) + exchange[place + 2:]
                yield exchange[:place] + (after, (begin, end, new)) + exchange[place + 2:]
        for begin in range(len(base)):
            if len(begins_at(base, base[begin])) == 1:
                # A part that does no hunk.
                yield tuple(sorted([*exchange, (begin, begin + 1, base[begin])]))

    def test_is_led_with_windows_that_touch(self):
        merge = Merge("abcd", Program(Once("a", "x"), Once("c", "y")))
        for value in (((0, 1, "x"), (2, 3, "y")), ((0, 2, "xb"), (2, 3, "y")), ((0, 1, "x"), (1, 3, "by")),
                      ((0, 2, "xb"), (2, 4, "yd")), ((0, 4, "xbyd"),), ((0, 3, "xby"),)):
            self.assertIs(merge.is_led(0, [], value), True)
        for value in (((0, 1, "x"),), ((0, 1, "x"), (1, 2, "b"), (2, 3, "y")), ((0, 1, "xb"), (1, 3, "y")),
                      ((0, 1, "x"), (2, 3, "y"), (3, 4, "d")), ((0, 2, "xby"), (2, 3, "")), ((0, 1, ""), (1, 3, "xby")),
                      ((1, 4, "byd"),), ((1, 4, "bcxbyd"),), ((1, 3, "by"),), ()):
            self.assertIs(merge.is_led(0, [], value), False)

    def test_is_led_with_any_value(self):
        merge = Merge("abcd", Program(Once("b", "x")), Program(Once("d", "")))
        self.assertIs(merge.is_led(hand=0, others=[1], value=((1, 2, "x"),)), True)
        self.assertIs(merge.is_led(0, (1,), ((0, 3, "axc"),)), True)
        wrong = NO_STRINGS + NO_TEXTS[:2] + [
            "", [(1, 2, "x")], ([1, 2, "x"],), ((1, 2),), ((1, 2, "x", 0),), ((True, 2, "x"),), ((1, 2, None),),
            ((1, 2, "x"), None), ((1, 2, "y"),), ((0, 1, "a"), (1, 2, "x")), ((1, 2, "x"), (2, 3, "c")), ((1, 4, "xc"),),
            ((1, 2, ""), (2, 3, "xc")), ((0, 1, "ax"), (1, 2, ""))]
        for value in wrong:
            self.assertIs(merge.is_led(0, [1], value), False)
        # For the text with the others done only.
        self.assertIs(merge.is_led(0, [], ((1, 4, "xcd"),)), True)
        self.assertIs(merge.is_led(0, [1], ((1, 4, "xcd"),)), False)


if __name__ == "__main__":
    unittest.main()
