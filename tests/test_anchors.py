import itertools
import random
import unittest

from anchoredits.anchors import breaker, edit_at, outcomes, spoiled, stays, steady, ways, windows
from anchoredits.edits import AtOnce, First, Once, Perhaps
from anchoredits.errors import InvalidSpot
from anchoredits.origins import origins
from anchoredits.programs import Program

from samples import NO_STRINGS, begins_at, by_number, naive_edit, naive_outcome, raised, random_programs, words_over

WORDS = by_number(set(words_over("\nab", 6)))


def least_ones(chosen):
    """Those windows that have no other one within them, ascending."""
    return sorted(window for window in chosen if not any(
        other != window and window[0] <= other[0] and other[1] <= window[1] for other in chosen))


def around(text, first, last):
    """All windows around a spot."""
    return [(begin, end) for begin in range(first + 1) for end in range(max(last, begin + 1), len(text) + 1)]


def naive_windows(text, first, last):
    once = [(begin, end) for begin, end in around(text, first, last) if len(begins_at(text, text[begin:end])) == 1]
    return least_ones(once)


def naive_ways(text, edits):
    """All ways as promise 42 tells them, each with its Program."""
    told = []
    for number in range(len(edits) + 1):
        for way in itertools.permutations(range(len(edits)), number):
            program = Program(*[edits[index] for index in way])
            if naive_outcome(program, text) is not None:
                told.append((way, program))
    return told


def naive_breaker(text, begin, end, edits):
    for way, program in naive_ways(text, edits):
        found = begins_at(naive_outcome(program, text), text[begin:end])
        if len(found) != 1:
            return way
        if origins(program, text)[found[0]:found[0] + end - begin] != tuple(range(begin, end)):
            return way
    return None


def random_case(chance):
    """(text, edits) with up to four edits, many of which are right for the text."""
    letters = chance.choice(["ab", "abc", "abcdef"])
    text = "".join(chance.choice(letters) for _ in range(chance.randint(0, 10)))
    edits = []
    for _ in range(chance.randint(0, 4)):
        begin = chance.randint(0, max(0, len(text) - 1))
        old = text[begin:begin + chance.randint(1, 4)] or "a"
        if chance.random() < 0.2:
            old = "".join(chance.choice(letters) for _ in range(2))
        edits.append(Once(old, "".join(chance.choice(letters + "x") for _ in range(chance.randint(0, 3)))))
    return text, edits


class AnchorsTest(unittest.TestCase):
    def wrong_spots(self, action):
        """That an action with a text, a first and a last looks at first, then at last."""
        for text in ("", "a", "abcab"):
            for value in NO_STRINGS + ["", "a", -1, len(text) + 1, 10 ** 59, -10 ** 59]:
                if type(value) is int and 0 <= value <= len(text):
                    continue
                self.assertIs(raised(self, InvalidSpot, action, text, value, value).value, value)
                self.assertIs(raised(self, InvalidSpot, action, text, value, 0).value, value)
                self.assertIs(raised(self, InvalidSpot, action, text, value, None).value, value)
                for first in range(len(text) + 1):
                    self.assertIs(raised(self, InvalidSpot, action, text, first, value).value, value)
        self.assertEqual(raised(self, InvalidSpot, action, "abcab", 3, 2).value, 2)
        self.assertEqual(raised(self, InvalidSpot, action, "abcab", 6, 2).value, 6)


class WindowsTest(AnchorsTest):
    def test_examples(self):
        self.assertEqual([windows("abcabd", 4, 5), windows("abcabd", 0, 0), edit_at("abcabd", 4, 5, "x") == Once("bd", "xd")],
                         [[(2, 5), (4, 6)], [(0, 3)], True])

    def test_empty_spots_and_both_ends(self):
        self.assertEqual(windows("abcab", 0, 0), [(0, 3)])
        self.assertEqual(windows("abcab", 5, 5), [(2, 5)])
        self.assertEqual(windows("abcab", 2, 2), [(2, 3)])
        self.assertEqual(windows("abcab", 0, 5), [(0, 5)])
        self.assertEqual(windows("abc", 1, 1), [(0, 1), (1, 2)])
        self.assertEqual(windows("abc", 1, 2), [(1, 2)])
        self.assertEqual(windows("a", 0, 0), [(0, 1)])
        self.assertEqual(windows("a", 1, 1), [(0, 1)])
        self.assertEqual(windows("", 0, 0), [])
        self.assertEqual(windows("aa", 1, 1), [(0, 2)])
        self.assertEqual(windows("aaaa", 1, 3), [(0, 4)])
        self.assertEqual(windows(last=2, first=1, text="abc"), [(1, 2)])

    def test_beside_all_windows(self):
        for text in words_over("ab", 7) + words_over("abc", 4):
            for first in range(len(text) + 1):
                for last in range(first, len(text) + 1):
                    told = windows(text, first, last)
                    self.assertEqual(told, naive_windows(text, first, last))
                    self.assertIs(type(told), list)
                    for window in told:
                        self.assertIs(type(window), tuple)

    def test_no_spot(self):
        self.wrong_spots(windows)
        self.wrong_spots(lambda text, first, last: edit_at(text, first, last, "x"))
        self.wrong_spots(lambda text, first, last: steady(text, first, last, [Once("a", "b")]))

    def test_long_text(self):
        text = "ab" * 3000 + "c" + "ab" * 3000
        self.assertEqual(windows(text, 6000, 6000), [(6000, 6001)])
        self.assertEqual(len(windows(text, 10, 12)), 1)
        self.assertEqual(windows("a" * 3000, 5, 6), [(0, 3000)])


class EditAtTest(AnchorsTest):
    def test_ordinary(self):
        self.assertEqual(edit_at("one two two", 0, 3, "1"), Once("one", "1"))
        self.assertEqual(edit_at("abcabd", 4, 4, "x"), Once("ca", "cax"))
        # Of several shortest windows the one that begins first.
        self.assertEqual(edit_at("abc", 1, 1, "x"), Once("a", "ax"))
        self.assertEqual(edit_at("abc", 0, 0, "x"), Once("a", "xa"))
        self.assertEqual(edit_at("abc", 3, 3, "x"), Once("c", "cx"))
        self.assertEqual(edit_at(new="", last=2, first=1, text="abc"), Once("b", ""))
        self.assertIsNone(edit_at("", 0, 0, "x"))

    def test_beside_all_windows(self):
        for text in words_over("ab", 6):
            for first in range(len(text) + 1):
                for last in range(first, len(text) + 1):
                    chosen = naive_windows(text, first, last)
                    told = edit_at(text, first, last, "xy")
                    if not chosen:
                        self.assertIsNone(told)
                        continue
                    begin, end = min(chosen, key=lambda window: (window[1] - window[0], window[0]))
                    self.assertEqual(told, Once(text[begin:end], text[begin:first] + "xy" + text[last:end]))
                    self.assertEqual(naive_edit(told, text), text[:first] + "xy" + text[last:])

    def test_at_40_and_41_letters(self):
        self.assertEqual(edit_at("a" * 40, 1, 2, ""), Once("a" * 40, "a" * 39))
        self.assertIsNone(edit_at("a" * 41, 1, 2, ""))
        self.assertEqual(edit_at("a" * 40, 1, 2, "b"), Once("a" * 40, "a" + "b" + "a" * 38))
        self.assertIsNone(edit_at("a" * 40, 1, 2, "bb"))
        self.assertEqual(edit_at("ab", 0, 1, "x" * 40), Once("a", "x" * 40))
        self.assertIsNone(edit_at("ab", 0, 1, "x" * 41))
        self.assertEqual(edit_at("ab", 0, 0, "x" * 39), Once("a", "x" * 39 + "a"))
        self.assertIsNone(edit_at("ab", 0, 0, "x" * 40))
        self.assertEqual(edit_at("a" * 50 + "b", 50, 51, "x"), Once("b", "x"))
        # The spot itself has 40 letters, then 41.
        text = "".join(chr(code) for code in range(40, 81))
        self.assertEqual(edit_at(text, 0, 40, "x"), Once(text[:40], "x"))
        self.assertIsNone(edit_at(text, 0, 41, "x"))


class WaysTest(AnchorsTest):
    def test_examples(self):
        edits = [Once("c", "bd")]
        self.assertEqual([list(ways("abcabd", edits)), steady("abcabd", 4, 5, edits), breaker("abcabd", 4, 6, edits)],
                         [[(), (0,)], [(3, 6)], (0,)])

    def test_order(self):
        edits = [Once(letter, letter.upper()) for letter in "abcd"]
        told = [way for number in range(5) for way in itertools.permutations(range(4), number)]
        self.assertEqual(list(ways("abcd", edits)), told)
        self.assertEqual(len(told), 65)
        self.assertEqual(list(ways(edits=edits[:2], text="abcd")), [(), (0,), (1,), (0, 1), (1, 0)])
        self.assertEqual(list(ways("abcd", [])), [()])
        self.assertEqual(list(ways("", tuple(edits))), [()])

    def test_right_at_their_time(self):
        self.assertEqual(list(ways("a", [Once("a", "b"), Once("b", "c")])), [(), (0,), (0, 1)])
        self.assertEqual(list(ways("ab", [Once("a", "b"), Once("b", "c")])), [(), (0,), (1,), (1, 0)])
        self.assertEqual(list(ways("a", [Once("a", "a"), Once("a", "a")])), [(), (0,), (1,), (0, 1), (1, 0)])
        self.assertEqual(list(ways("a", [Once("a", ""), Once("a", "")])), [(), (0,), (1,)])

    def test_two_generators_side_by_side(self):
        edits = [Once("a", "x"), Once("b", "y")]
        one, other = ways("ab", edits), ways("a", edits)
        told = [(next(one), next(other)) for _ in range(2)]
        self.assertEqual(told, [((), ()), ((0,), (0,))])
        self.assertEqual(list(one), [(1,), (0, 1), (1, 0)])
        self.assertEqual(list(other), [])

    def test_outcomes(self):
        self.assertEqual(outcomes("ab", []), {"ab": ()})
        told = outcomes("ab", [Once("b", "x"), Once("a", "y"), Once("yx", "ab")])
        self.assertEqual(told, {"ab": (), "ax": (0,), "yb": (1,), "yx": (0, 1)})
        self.assertEqual(list(told), sorted(told))
        self.assertEqual(outcomes(edits=[Once("a", "b"), Once("a", "b")], text="a"), {"a": (), "b": (0,)})

    def test_random_cases(self):
        chance = random.Random(25)
        for _ in range(400):
            text, edits = random_case(chance)
            rows = naive_ways(text, edits)
            self.assertEqual(list(ways(text, edits)), [way for way, _ in rows])
            firsts = {}
            for way, program in rows:
                firsts.setdefault(naive_outcome(program, text), way)
            told = outcomes(text, edits)
            self.assertEqual(told, firsts)
            self.assertEqual(list(told), sorted(firsts))


class SteadyTest(AnchorsTest):
    def test_ordinary(self):
        self.assertEqual(steady("abc", 1, 2, []), [(1, 2)])
        self.assertEqual(steady("abc", 1, 2, [Once("c", "b")]), [(0, 2)])
        self.assertEqual(steady(edits=(Once("b", ""),), last=2, first=1, text="abc"), [])
        self.assertEqual(steady("", 0, 0, []), [])
        # An empty spot between letters that do not stay.
        self.assertEqual(steady("ab", 1, 1, [Once("a", "c"), Once("b", "d")]), [])
        self.assertEqual(steady("ab", 1, 1, [Once("a", "c")]), [(1, 2)])

    def test_a_window_around_a_steady_one_need_not_be_steady(self):
        edits = [Once("c", "x")]
        self.assertIsNone(breaker("abc", 1, 2, edits))
        self.assertEqual(breaker("abc", 1, 3, edits), (0,))
        self.assertEqual(steady("abc", 1, 2, edits), [(1, 2)])

    def test_by_origins(self):
        # The letters are put again, or stand elsewhere: they are not the same ones.
        self.assertEqual(breaker("ab", 0, 1, [Once("a", "a")]), (0,))
        self.assertEqual(breaker("ab", 1, 2, [Once("a", "a")]), None)
        self.assertEqual(breaker("xaby", 1, 3, [Once("a", "ca")]), (0,))
        self.assertEqual(breaker("ab", 0, 2, [Once("b", ""), Once("a", "ab")]), (0,))
        # Something is put between the letters, and goes again.
        self.assertEqual(breaker("acb", 0, 2, [Once("ac", "axc"), Once("xc", "c")]), (0,))

    def test_breaker(self):
        self.assertEqual(breaker("abab", 0, 1, []), ())
        self.assertEqual(breaker("abab", 0, 2, [Once("ba", "x")]), ())
        self.assertIsNone(breaker("abc", 0, 2, []))
        self.assertEqual(breaker(edits=[Once("c", "d"), Once("d", "ab")], end=2, begin=0, text="abc"), (0, 1))
        self.assertEqual(breaker("abc", 0, 2, [Once("d", "ab"), Once("c", "d")]), (1, 0))
        self.assertEqual(breaker("abcd", 0, 2, [Once("d", "ab"), Once("c", "ab")]), (0,))

    def test_random_cases(self):
        chance = random.Random(26)
        some, none = 0, 0
        for _ in range(400):
            text, edits = random_case(chance)
            first = chance.randint(0, len(text))
            last = chance.randint(first, len(text))
            told = {}
            for begin in range(len(text)):
                for end in range(begin + 1, len(text) + 1):
                    told[begin, end] = naive_breaker(text, begin, end, edits)
                    self.assertEqual(breaker(text, begin, end, edits), told[begin, end])
            chosen = least_ones([window for window in around(text, first, last) if told[window] is None])
            self.assertEqual(steady(text, first, last, edits), chosen)
            some += bool(chosen) and len(list(ways(text, edits))) > 1
            none += not chosen
        self.assertGreater(min(some, none), 20)


class StaysTest(AnchorsTest):
    def assert_first(self, told, words):
        """That a text that is told is the first one of those of WORDS, or a longer one if there is none."""
        first = next(iter(words), None)
        self.assertTrue(told == first or first is None and len(told) > 6, (told, first))

    def test_ordinary(self):
        self.assertEqual([stays(Once("a", "b"), Program(Once("b", "a")))], ["ab"])
        self.assertIsNone(stays(Once("a", "b"), Program(Once("b", "c"))))
        self.assertIsNone(stays(Once("a", "b"), Program()))
        self.assertEqual(stays(program=Program(Once("a", "b")), edit=Once("a", "c")), "a")
        self.assertEqual(stays(Once("ab", ""), Program(First("c", ""))), "abacb")
        self.assertEqual(stays(Once("ab", ""), Program(AtOnce(("x", ""), ("b", "c")))), "abx")
        # No text is right for both.
        self.assertIsNone(stays(Once("a", ""), Program(Once("a", "b"), Once("a", ""))))

    def test_beside_all_short_texts(self):
        chance = random.Random(27)
        programs = random_programs(chance, "ab", 120, [Once, First, Perhaps, AtOnce])
        for program in programs:
            edit = Once(*chance.choice([("a", ""), ("ab", "b"), ("ba", ""), ("aa", "a"), ("b", "")]))
            if len("".join(program.olds)) + len(edit.old) > 8 or len("".join(program.news)) + len(edit.new) > 12:
                continue
            results = ((word, naive_outcome(program, word)) for word in WORDS if naive_edit(edit, word) is not None)
            self.assert_first(stays(edit, program), (
                word for word, result in results if result is not None and naive_edit(edit, result) is None))

    def test_spoiled_ordinary(self):
        self.assertEqual(spoiled(Once("a", "b"), [Once("b", "a")]), ("ab", (0,)))
        self.assertEqual(spoiled(Once("a", "b"), (Once("b", "c"), Once("c", "a"))), ("abc", (1,)))
        self.assertIsNone(spoiled(others=[Once("b", "c"), Once("c", "b")], edit=Once("a", "")))
        self.assertEqual(spoiled(Once("ac", ""), [Once("e", ""), Once("d", "")]), ("acadce", (1,)))
        # Only behind both of them: in any order, or in one order alone.
        self.assertEqual(spoiled(Once("xy", ""), [Once("b", "x"), Once("c", "y")]), ("bcxy", (0, 1)))
        self.assertEqual(spoiled(Once("ab", ""), [Once("ac", "c"), Once("ca", "")]), ("acab", (0, 1)))
        self.assertEqual(spoiled(Once("cb", ""), [Once("bc", "c"), Once("ab", "")]), ("cbabc", (1, 0)))

    def test_spoiled_beside_all_short_texts(self):
        chance = random.Random(28)
        for _ in range(150):
            edit, *others = [Once("".join(chance.choice("ab") for _ in range(chance.randint(1, 2))),
                                  "".join(chance.choice("ab") for _ in range(chance.randint(0, 2))))
                             for _ in range(chance.randint(2, 3))]
            told = spoiled(edit, others)
            first = None
            for word in WORDS:
                if any(naive_edit(each, word) is None for each in [edit, *others]):
                    continue
                wrong = [way for way, program in naive_ways(word, others)
                         if naive_edit(edit, naive_outcome(program, word)) is None]
                if wrong:
                    first = (word, wrong[0])
                    break
            self.assertTrue(told == first or first is None and len(told[0]) > 6, (told, first))


if __name__ == "__main__":
    unittest.main()
