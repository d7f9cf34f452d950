import random
import unittest

from anchoredits.edits import AtOnce, Every, First, Once, Perhaps
from anchoredits.errors import InvalidOld, InvalidRun, InvalidText, NoPlace, OutOfRange, Overlap, TooMany, Unbounded
from anchoredits.longs import LongText, origin_long, run_long, stands_in, times_in
from anchoredits.origins import origins
from anchoredits.programs import Program
from anchoredits.sets import TextSet

from samples import NO_LETTERS, NO_STRINGS, NO_TEXTS, begins_at, naive_outcome, raised, random_programs, words_over
from test_sets import random_table

MOST = 10 ** 30
KINDS = [Once, First, Perhaps, AtOnce, Every, Every]


def written_out(long):
    return "".join(piece * times for piece, times in long.runs)


def random_word(chance, letters, least, most):
    return "".join(chance.choice(letters) for _ in range(chance.randint(least, most)))


def random_runs(chance, letters, most=9):
    """At most five runs of short pieces."""
    return [(random_word(chance, letters, 1, 4), chance.choice([1, 1, 2, 3, chance.randint(1, most)]))
            for _ in range(chance.randint(0, 5))]


def text_of(runs):
    return "".join(piece * times for piece, times in runs)


class LongTextTest(unittest.TestCase):
    def assert_runs(self, long):
        self.assertIs(type(long.runs), tuple)
        for run in long.runs:
            self.assertEqual([type(run), type(run[0]), type(run[1])], [tuple, str, int])
            self.assertTrue(len(run[0]) > 0 and run[1] > 0)
        self.assertEqual(long.length, sum(len(piece) * times for piece, times in long.runs))
        self.assertIs(type(long.length), int)

    def test_examples(self):
        long = LongText(("ab", 10 ** 30), ("c", 1), ("ba", 10 ** 30))
        self.assertEqual(
            [long.length, long.count("ba"), long.count("bc"), long.letter(2 * 10 ** 30), long.place("ba", 10 ** 30 - 1)],
            [4000000000000000000000000000001, 1999999999999999999999999999999, 1, "c", 2000000000000000000000000000001])
        self.assertTrue(run_long(Program(Once("cb", "b")), long) == LongText(("ab", 10 ** 30), ("ba", 10 ** 30)))
        told = raised(self, NoPlace, run_long, Program(Once("ba", "")), long)
        self.assertEqual([told.index, told.number], [0, 1999999999999999999999999999999])

    def test_made(self):
        self.assertEqual([LongText().length, LongText().runs], [0, ()])
        for runs in ([("a", 1)], [("ab", 3), ("ab", 3)], [("a" * 40, MOST)] * 20, [("\n~", 10 ** 29)]):
            self.assert_runs(LongText(*runs))
            self.assertEqual(LongText(*runs).length, sum(len(piece) * times for piece, times in runs))
        for text in ("", "a", "abc\n" * 1000):
            self.assert_runs(LongText.of(text))
            self.assertEqual(written_out(LongText.of(text)), text)
        for value in NO_STRINGS + NO_TEXTS:
            self.assertIs(raised(self, InvalidText, LongText.of, value).value, value)

    def test_invalid_runs_ahead_of_too_many(self):
        wrong = NO_STRINGS + ["", "ab", ("a",), ("a", 1, 1), ["a", 1], (1, "a"), ("", 1), ("a" * 41, 1), ("a", 0), ("a", -1),
                              ("a", MOST + 1), ("a", True), ("a", False), ("a", None), ("a", "1"), ("a", (1,)), (None, 1),
                              (b"a", 1), (("a",), 1), (["a"], 1), ("a", 10 ** 59)]
        wrong += [(text, 1) for text in NO_TEXTS]
        for run in wrong:
            for number in (0, 1, 19, 20, 25):
                told = raised(self, InvalidRun, LongText, *[("a", 1)] * number, run, run, *[("a", 1)] * 5)
                self.assertEqual(told.index, number)
                self.assertIs(type(told.index), int)
        for number in (21, 22, 30):
            self.assertEqual(raised(self, TooMany, LongText, *[("a", 1)] * number).limit, 20)
        self.assertEqual(LongText(*[("a", 1)] * 20).length, 20)

    def test_limits_of_the_call_alone(self):
        long = LongText(*[("a", MOST)] * 20)
        self.assert_runs(long + long)
        self.assertEqual((long + long).length, 40 * MOST)
        self.assertEqual(LongText.of("ab" * 500).length, 1000)
        self.assertEqual(LongText.of("ab" * 500), LongText(("ab", 500)))

    def test_equal_however_they_are_cut(self):
        for one, other in (
                ([("ab", MOST)], [("abab", MOST // 2)]), ([("ab", MOST)], [("a", 1), ("ba", MOST - 1), ("b", 1)]),
                ([("ab", 6), ("a", 1)], [("a", 1), ("ba", 6)]), ([("abc", 2)], [("a", 1), ("b", 1), ("c", 1), ("abc", 1)]),
                ([("aa", MOST)], [("aaaaa", 4 * 10 ** 29)]), ([("a", 10), ("a", 5)], [("aaa", 5)]),
                ([("abcabc", MOST), ("x", 1)], [("abc", MOST), ("abc", MOST - 1), ("abcx", 1)]), ([], [])):
            self.assertTrue(LongText(*one) == LongText(*other))
            self.assertFalse(LongText(*one) != LongText(*other))
            self.assertIsNone(LongText(*one).difference(LongText(*other)))
            self.assertIsNone(LongText(*other).difference(LongText(*one)))
        for value in NO_STRINGS + ["", "ab"]:
            self.assertFalse(LongText() == value)
            self.assertFalse(LongText(("ab", 1)) == value)

    def test_one_letter_otherwise_at_a_far_place(self):
        long = LongText(("ab", MOST), ("c", 1), ("ba", MOST))
        for other, place in (
                (LongText(("ab", MOST), ("d", 1), ("ba", MOST)), 2 * MOST),
                (LongText(("ab", MOST), ("cb", 1), ("ab", MOST - 1), ("b", 1)), 4 * MOST),
                (LongText(("ab", MOST - 7), ("c", 1)), 2 * MOST - 14),
                (LongText(("ab", MOST), ("c", 1), ("ba", MOST - 1)), 4 * MOST - 1), (LongText(("ab", MOST)), 2 * MOST),
                (LongText(("ab", MOST), ("c", 1), ("ba", MOST), ("b", 1)), 4 * MOST + 1), (LongText(), 0),
                (LongText(("ba", 1)), 0), (LongText(("abababababababababababababababababababab", 10 ** 28)), 4 * 10 ** 29)):
            self.assertEqual(long.difference(other), place)
            self.assertEqual(other.difference(long), place)
            self.assertFalse(long == other)
            self.assertIs(type(long.difference(other)), int)
        # Pieces that agree for a while: as many letters as both have together decide.
        one, other = LongText(("aab", 100)), LongText(("aabaabaab", 5), ("aabaac", 20))
        self.assertEqual(one.difference(other), 50)
        self.assertEqual(LongText(("aabaa", 50)).difference(LongText(("aab", 50))), 5)
        self.assertEqual(LongText(("a" * 39 + "b", MOST)).difference(LongText(("a" * 39, MOST))), 39)

    def test_joined(self):
        one, other = LongText(("ab", MOST)), LongText(("ba", 3))
        self.assertEqual((one + other).length, 2 * MOST + 6)
        self.assertEqual(one + other, LongText(("ab", MOST), ("ba", 3)))
        self.assertEqual(LongText() + one, one)
        self.assertEqual(one + LongText(), one)
        self.assertEqual([one.length, other.length], [2 * MOST, 6])
        self.assert_runs(one + other)

    def test_letter(self):
        long = LongText(("ab", MOST), ("c", 1), ("de", MOST))
        for place, letter in ((0, "a"), (1, "b"), (2 * MOST - 1, "b"), (2 * MOST, "c"), (2 * MOST + 1, "d"),
                              (4 * MOST, "e"), (10 ** 29, "a"), (10 ** 29 + 1, "b")):
            self.assertEqual(long.letter(place), letter)
            self.assertIs(type(long.letter(place)), str)
        for value in NO_STRINGS + ["", "0", -1, 4 * MOST + 1, 10 ** 59, -10 ** 59]:
            if type(value) is not int or not 0 <= value <= 4 * MOST:
                self.assertIs(raised(self, OutOfRange, long.letter, value).value, value)
            self.assertIs(raised(self, OutOfRange, LongText().letter, value).value, value)

    def test_part(self):
        long = LongText(("ab", MOST), ("c", 1), ("de", MOST))
        for first, last, text in (
                (0, 0, ""), (0, 3, "aba"), (1, 2, "b"), (2 * MOST - 3, 2 * MOST + 4, "babcded"), (2 * MOST, 2 * MOST + 1, "c"),
                (4 * MOST - 1, 4 * MOST + 1, "de"), (4 * MOST + 1, 4 * MOST + 1, ""), (2 * MOST, 2 * MOST, ""),
                (1, 1001, "ba" * 500), (4 * MOST - 999, 4 * MOST + 1, "de" * 500)):
            self.assertEqual(long.part(first, last), text)
        self.assertEqual(long.part(last=2, first=1), "b")
        self.assertEqual(LongText().part(0, 0), "")
        for value in NO_STRINGS + ["", "0", -1, 4 * MOST + 2, 10 ** 59]:
            if type(value) is not int or not 0 <= value <= 4 * MOST + 1:
                for last in (0, None, value, 10 ** 59):
                    self.assertIs(raised(self, OutOfRange, long.part, value, last).value, value)
            if type(value) is not int or not 1 <= value <= 1001:
                self.assertIs(raised(self, OutOfRange, long.part, 1, value).value, value)
        for first, last in ((1, 0), (0, 1001), (1, 1002), (4 * MOST - 998, 4 * MOST + 2), (4 * MOST + 1, 4 * MOST),
                            (4 * MOST + 1, 4 * MOST + 2), (2 * MOST, 2 * MOST + 1001)):
            self.assertEqual(raised(self, OutOfRange, long.part, first, last).value, last)

    def test_beside_texts_that_are_written_out(self):
        chance = random.Random(71)
        alike = 0
        for _ in range(1500):
            letters = chance.choice(["a", "ab", "abc"])
            runs, others = random_runs(chance, letters), random_runs(chance, letters)
            text, other = text_of(runs), text_of(others)
            long = LongText(*runs)
            self.assert_runs(long)
            self.assertEqual([written_out(long), long.length], [text, len(text)])
            unlike = [place for place in range(max(len(text), len(other))) if text[place:place + 1] != other[place:place + 1]]
            alike += not unlike
            self.assertEqual(long.difference(LongText(*others)), unlike[0] if unlike else None)
            self.assertEqual(LongText(*others).difference(long), unlike[0] if unlike else None)
            self.assertIs(long == LongText(*others), text == other)
            self.assertEqual(written_out(long + LongText(*others)), text + other)
            self.assertTrue(long == LongText.of(text))
            self.assertEqual("".join(map(long.letter, range(len(text)))), text)
            first = chance.randint(0, len(text))
            last = chance.randint(first, len(text))
            self.assertEqual(long.part(first, last), text[first:last])
        self.assertGreater(alike, 30)


class PlacesTest(unittest.TestCase):
    def test_far_places(self):
        long = LongText(("ab", MOST), ("c", 1), ("ba", MOST))
        self.assertEqual([long.count("ab"), long.count("abc"), long.count("bcb"), long.count("abcba"), long.count("x")],
                         [2 * MOST - 1, 1, 1, 1, 0])
        self.assertEqual([long.place("ab", 0), long.place("ab", MOST - 1), long.place("ab", MOST), long.place("ab", 2 * MOST - 2)],
                         [0, 2 * MOST - 2, 2 * MOST + 2, 4 * MOST - 2])
        self.assertEqual([long.place("c", 0), long.place("cba", 0)], [2 * MOST] * 2)
        self.assertEqual(long.place(number=0, word="bc"), 2 * MOST - 1)
        self.assertEqual(long.count(word="bc"), 1)
        self.assertIs(type(long.count("ab")), int)
        self.assertIs(type(long.place("ab", 5)), int)

    def test_words_longer_than_pieces_and_over_several_seams(self):
        long = LongText(("ab", MOST), ("c", 1), ("d", 1), ("e", 1), ("ab", MOST))
        self.assertEqual([long.count("ab" * 20), long.count("bcdea"), long.count("abcdeabab"), long.count("cde")],
                         [2 * (MOST - 19), 1, 1, 1])
        self.assertEqual(long.place("bcdea", 0), 2 * MOST - 1)
        self.assertEqual(long.count("b" * 2), 0)
        self.assertEqual(LongText(("a", 1), ("a", 1), ("a", 1), ("a", 1)).count("aaa"), 2)
        self.assertEqual(LongText(("a", 3), ("b", 1)).count("aaaa"), 0)

    def test_words_that_overlap_themselves(self):
        long = LongText(("a", MOST), ("a", MOST), ("aab", 1))
        self.assertEqual([long.count("aa"), long.count("a" * 40), long.count("ab")], [2 * MOST + 1, 2 * MOST - 37, 1])
        self.assertEqual([long.place("aa", MOST - 1), long.place("aa", 2 * MOST)], [MOST - 1, 2 * MOST])
        self.assertEqual(LongText(("aba", MOST)).count("aa"), MOST - 1)
        self.assertEqual(LongText(("aba", MOST)).place("aa", MOST - 2), 3 * (MOST - 1) - 1)

    def test_errors(self):
        long = LongText(("ab", MOST))
        for value in NO_STRINGS + NO_TEXTS + ["", "a" * 41]:
            self.assertIs(raised(self, InvalidOld, long.count, value).value, value)
            # Ahead of OutOfRange.
            self.assertIs(raised(self, InvalidOld, long.place, value, None).value, value)
            self.assertIs(raised(self, InvalidOld, long.place, value, 0).value, value)
        for word, number in (("ab", MOST), ("ba", MOST - 1), ("aa", 0)):
            for value in NO_STRINGS + ["", "0", -1, number, 10 ** 59]:
                if type(value) is not int or not 0 <= value < number:
                    self.assertIs(raised(self, OutOfRange, long.place, word, value).value, value)
        self.assertEqual(long.count("ab" * 20), MOST - 19)

    def test_beside_texts_that_are_written_out(self):
        chance = random.Random(72)
        some = 0
        for _ in range(2500):
            letters = chance.choice(["a", "ab", "abc"])
            runs = random_runs(chance, letters)
            long, text = LongText(*runs), text_of(runs)
            word = random_word(chance, letters, 1, 9)
            found = begins_at(text, word)
            some += len(found) > 2
            self.assertEqual(long.count(word), len(found))
            self.assertEqual([long.place(word, number) for number in range(len(found))], found)
            self.assertEqual(raised(self, OutOfRange, long.place, word, len(found)).value, len(found))
        self.assertGreater(some, 300)


class RunLongTest(unittest.TestCase):
    def test_ordinary(self):
        long = LongText(("ab", MOST), ("c", 1), ("ab", MOST))
        for program, told in (
                (Program(), long), (Program(Once("c", "")), LongText(("ab", MOST), ("ab", MOST))),
                (Program(First("a", "x")), LongText(("xb", 1), ("ab", MOST - 1), ("c", 1), ("ab", MOST))),
                (Program(Perhaps("x", "y")), long), (Program(Perhaps("bca", "y")), LongText(
                    ("ab", MOST - 1), ("ayb", 1), ("ab", MOST - 1))),
                (Program(AtOnce()), long), (Program(Every("b", "")), LongText(("a", MOST), ("c", 1), ("a", MOST))),
                (Program(Every("ba", "x")), LongText(("a", 1), ("x", MOST - 1), ("bca", 1), ("x", MOST - 1), ("b", 1))),
                (Program(Every("ab", "c")), LongText(("c", MOST), ("c", MOST), ("c", 1))),
                (Program(Every("ab", "")), LongText(("c", 1))),
                (Program(Every("ab", "")).then(Program(Once("c", ""))), LongText()),
                (Program(Once("bc", "x"), First("ax", "y")), LongText(("ab", MOST - 1), ("y", 1), ("ab", MOST)))):
            self.assertTrue(run_long(program, long) == told)
        self.assertTrue(run_long(long=long, program=Program()) == long)
        self.assertIsInstance(run_long(Program(), long), LongText)
        at_once = Program(AtOnce(("bca", "1"), ("cab", "2")))
        self.assertEqual(raised(self, Overlap, run_long, at_once, long).index, 0)
        at_once = Program(AtOnce(("da", "2"), ("bd", "1")), Once("1", "1"))
        self.assertEqual(raised(self, NoPlace, run_long, at_once, long).number, 0)
        split = LongText(("ab", MOST), ("cd", 1), ("ab", MOST))
        self.assertTrue(run_long(Program(AtOnce(("da", "2"), ("bc", "1"))), split) == LongText(
            ("ab", MOST - 1), ("a12b", 1), ("ab", MOST - 1)))

    def test_every_with_pieces_that_do_not_fit(self):
        # Fifteen letters come again: five pieces, or three olds.
        long = LongText(("aaa", MOST))
        told = run_long(Program(Every("aaaaa", "b")), long)
        self.assertEqual(told.length, 6 * 10 ** 29)
        self.assertTrue(told == LongText(("b", 6 * 10 ** 29)))
        told = run_long(Program(Every("aaaaaaa", "b")), long)
        times, rest = divmod(3 * MOST, 7)
        self.assertTrue(told == LongText(("b", times), ("a", rest)))
        told = run_long(Program(Every("aba", "x")), LongText(("ab", MOST), ("a", 1)))
        self.assertTrue(told == LongText(("xb", MOST // 2), ("a", 1)))
        told = run_long(Program(Every("aba", "x")), LongText(("ab", MOST), ("ab", 1), ("a", 1)))
        self.assertTrue(told == LongText(("xb", MOST // 2), ("x", 1)))

    def test_results_of_many_runs(self):
        long = LongText(*[("a" * 40, MOST)] * 20)
        told = run_long(Program(Every("a" * 39, "b" * 40)), long)
        times, rest = divmod(800 * MOST, 39)
        self.assertTrue(told == LongText(*[("b" * 40, MOST)] * 20) + LongText(("b" * 40, times - 20 * MOST), ("a", rest)))
        again = run_long(Program(Once("ba", "c")), told)
        self.assertEqual([again.length, again.count("c"), again.count("b" * 40)],
                         [told.length - 1, 1, told.length - rest - 1 - 39])

    def test_second_every(self):
        long = LongText(("ab", 3))
        every = Every("a", "b")
        for edits, index in (([every, every], 1), ([Once("x", ""), every, every, every], 2), ([every, AtOnce(), every], 2),
                             ([every, AtOnce(), First("x", ""), every], 3)):
            for action in (run_long, lambda program, text: origin_long(program, text, None)):
                self.assertEqual(raised(self, Unbounded, action, Program(*edits), long).index, index)
        self.assertEqual(raised(self, NoPlace, run_long, Program(Once("x", ""), every), long).index, 0)

    def test_exact_numbers(self):
        long = LongText(("ab", MOST), ("ba", MOST))
        for edit, number in ((Once("ab", ""), 2 * MOST - 1), (Perhaps("a", ""), 2 * MOST), (First("x", ""), 0),
                             (Every("aa", ""), 0), (Once("c", ""), 0), (AtOnce(("bb", ""), ("a", "")), 2 * MOST),
                             (AtOnce(("x", ""), ("a", "")), 0), (Once("aba", ""), 2 * MOST - 2)):
            told = raised(self, NoPlace, run_long, Program(AtOnce(), edit), long)
            self.assertEqual([told.index, told.number], [1, number])
            told = raised(self, NoPlace, origin_long, Program(edit), long, None)
            self.assertEqual([told.index, told.number], [0, number])
        told = raised(self, Overlap, run_long, Program(AtOnce(), AtOnce(("bb", ""), ("bba", ""))), long)
        self.assertEqual(told.index, 1)

    def test_beside_run_and_origins(self):
        chance = random.Random(73)
        right, every = 0, 0
        for _ in range(4000):
            letters = chance.choice(["a", "ab", "ab", "abc"])
            runs = random_runs(chance, letters, 12)
            program = random_programs(chance, letters, 1, KINDS)[0]
            if chance.random() < 0.5:
                program = Program(*program.edits[:2], Every(random_word(chance, letters, 1, 3), random_word(chance, letters, 0, 3)))
            indexes = [index for index, edit in enumerate(program.edits) if isinstance(edit, Every)]
            long, text = LongText(*runs), text_of(runs)
            if len(indexes) > 1:
                self.assertEqual(raised(self, Unbounded, run_long, program, long).index, indexes[1])
                continue
            result = naive_outcome(program, text)
            if result is None:
                self.assert_same_error(program, long, text)
                continue
            right += 1
            every += len(indexes)
            told = run_long(program, long)
            self.assertEqual(written_out(told), result)
            self.assertTrue(told == LongText.of(result))
            entries = tuple(origin_long(program, long, place) for place in range(len(result)))
            self.assertEqual(entries, origins(program, text))
            for value in (-1, len(result), None, True):
                self.assertIs(raised(self, OutOfRange, origin_long, program, long, value).value, value)
        self.assertGreater(min(right, every), 300)

    def assert_same_error(self, program, long, text):
        for action in (run_long, lambda one, other: origin_long(one, other, None)):
            try:
                program.run(text)
            except NoPlace as error:
                told = raised(self, NoPlace, action, program, long)
                self.assertEqual([told.index, told.number], [error.index, error.number])
            except Overlap as error:
                self.assertEqual(raised(self, Overlap, action, program, long).index, error.index)


class OriginLongTest(unittest.TestCase):
    def test_far_places(self):
        long = LongText(("ab", MOST), ("c", 1), ("ab", MOST))
        program = Program(Every("b", "xyz"), Once("c", "cd"))
        self.assertEqual(run_long(program, long).length, 8 * MOST + 2)
        for place, entry in (
                (0, 0), (1, (0, 0, 0)), (3, (0, 0, 2)), (4, 2), (4 * 10 ** 29, 2 * 10 ** 29), (4 * 10 ** 29 + 2, (0, 0, 1)),
                (4 * MOST - 4, 2 * MOST - 2), (4 * MOST, (1, 0, 0)), (4 * MOST + 1, (1, 0, 1)), (4 * MOST + 2, 2 * MOST + 1),
                (8 * MOST - 2, 4 * MOST - 1), (8 * MOST + 1, (0, 0, 2))):
            self.assertEqual(origin_long(program, long, place), entry)
        self.assertEqual(origin_long(place=5, long=long, program=Program()), 5)
        self.assertEqual(origin_long(Program(), long, 10 ** 29 + 7), 10 ** 29 + 7)
        for value in NO_STRINGS + ["", "0", -1, 8 * MOST + 2, 10 ** 59]:
            if type(value) is not int or not 0 <= value < 8 * MOST:
                self.assertIs(raised(self, OutOfRange, origin_long, program, long, value).value, value)
        self.assertEqual(raised(self, OutOfRange, origin_long, Program(), LongText(), 0).value, 0)

    def test_every_that_leaves_letters_out(self):
        # Of each nine letters a the first eight go, by twos, and the b stays.
        long = LongText(("aaaaaaaaab", MOST))
        program = Program(Every("aa", ""))
        self.assertTrue(run_long(program, long) == LongText(("ab", MOST)))
        for place in (0, 1, 2 * 10 ** 29, 2 * MOST - 1):
            self.assertEqual(origin_long(program, long, place), place // 2 * 10 + 8 + place % 2)
        program = Program(Every("ab", ""))
        self.assertTrue(run_long(program, long) == LongText(("a" * 8, MOST)))
        self.assertEqual(origin_long(program, long, 8 * 10 ** 29 + 3), 10 ** 30 + 3)

    def test_parts(self):
        long = LongText(("ab", MOST), ("cd", 1), ("ab", MOST))
        program = Program(AtOnce(("da", "12"), ("bc", "")))
        self.assertEqual(origin_long(program, long, 2 * MOST - 1), (0, 0, 0))
        self.assertEqual(origin_long(program, long, 2 * MOST), (0, 0, 1))
        self.assertEqual(origin_long(program, long, 2 * MOST - 2), 2 * MOST - 2)
        self.assertEqual(origin_long(program, long, 2 * MOST + 1), 2 * MOST + 3)


class SetsTest(unittest.TestCase):
    def test_stands_in(self):
        long = LongText(("ab", MOST), ("c", 1), ("ba", MOST))
        for texts, told in (
                (TextSet(), False), (TextSet("abcba"), False), (TextSet.every(), True), (TextSet.having("bcb"), True),
                (TextSet.having("bb"), False), (TextSet.every() - TextSet.having("abc"), False),
                (TextSet.having("c") & TextSet.having("ab"), True)):
            self.assertIs(stands_in(long, texts), told)
        self.assertIs(stands_in(texts=TextSet("", "a"), long=LongText()), True)
        self.assertIs(stands_in(LongText(), TextSet("a")), False)
        self.assertIs(stands_in(LongText(("ab", 2)), TextSet("abab", "x")), True)
        # Three states in turn: so it matters how often the piece stands there.
        third = TextSet.of_table(((True, (("a", 1),)), (False, (("a", 2),)), (False, (("a", 0),))))
        self.assertEqual([stands_in(LongText(("a", MOST + number)), third) for number in (-1, 0)], [True, False])
        self.assertIs(stands_in(LongText(("aa", MOST), ("a", 1)), third), True)
        # The same behind a beginning of its own.
        late = TextSet.of_table(((True, (("a", 1),)), (True, (("a", 2),)), (False, (("a", 3),)), (False, (("a", 1),))))
        self.assertEqual([stands_in(LongText(("a", MOST - number)), late) for number in range(4)], [True, False, False, True])
        self.assertEqual(times_in(late, "", "a", ""), (1, 3, (0,), (0,)))
        self.assertEqual(times_in(late, "a", "aa", "a"), (0, 3, (), (1,)))

    def test_stands_in_beside_texts_that_are_written_out(self):
        chance = random.Random(74)
        some = 0
        for _ in range(1500):
            letters = chance.choice(["a", "ab", "abc"])
            runs = random_runs(chance, letters, 30)
            texts = TextSet.of_table(random_table(chance, letters))
            self.assertIs(stands_in(LongText(*runs), texts), text_of(runs) in texts)
            some += text_of(runs) in texts and len(runs) > 0
        self.assertGreater(some, 100)

    def test_times_in(self):
        for texts, told in (
                (TextSet(), (0, 1, (), ())), (TextSet.every(), (0, 1, (), (0,))), (TextSet("xy"), (1, 1, (0,), ())),
                (TextSet("xaby", "xababababy"), (5, 1, (1, 4), ())), (TextSet.having("bab"), (2, 1, (), (0,))),
                (TextSet.every() - TextSet("xy", "xababy"), (3, 1, (1,), (0,)))):
            self.assertEqual(times_in(texts, "x", "ab", "y"), told)
        self.assertEqual(times_in(tail="", piece="a", head="", texts=TextSet("a")), (2, 1, (1,), ()))
        third = TextSet.of_table(((True, (("a", 1),)), (False, (("a", 2),)), (False, (("a", 0),))))
        self.assertEqual(times_in(third, "", "a", ""), (0, 3, (), (0,)))
        self.assertEqual(times_in(third, "a", "a", ""), (0, 3, (), (2,)))
        self.assertEqual(times_in(third, "", "aaa", ""), (0, 1, (), (0,)))
        self.assertEqual(times_in(third - TextSet("", "aaa"), "", "a", ""), (4, 3, (), (2,)))
        self.assertEqual(times_in(third | TextSet("a"), "", "a", ""), (2, 3, (0, 1), (1,)))
        # Four states in turn, of which two are alike: the least period.
        second = TextSet.of_table(((True, (("a", 1),)), (False, (("a", 2),)), (True, (("a", 3),)), (False, (("a", 0),))))
        self.assertEqual(times_in(second, "", "a", ""), (0, 2, (), (0,)))

    def test_times_in_is_the_least(self):
        chance = random.Random(75)
        periods = {}
        for _ in range(1500):
            letters = chance.choice(["a", "ab"])
            texts = TextSet.of_table(random_table(chance, letters))
            head, tail = random_word(chance, letters, 0, 3), random_word(chance, letters, 0, 3)
            piece = random_word(chance, letters, 1, 3)
            told = times_in(texts, head, piece, tail)
            held = [head + piece * number + tail in texts for number in range(60)]
            start, period = next((start, period) for period in range(1, 30) for start in range(20)
                                 if held[start:-period] == held[start + period:])
            self.assertEqual(told, (
                start, period, tuple(number for number in range(start) if held[number]),
                tuple(rest for rest in range(period) if held[start + rest])))
            self.assertEqual([type(part) for part in told], [int, int, tuple, tuple])
            periods[period] = periods.get(period, 0) + 1
        self.assertGreater(min(periods[1], periods[2]), 20)


class LettersTest(unittest.TestCase):
    def test_all_letters(self):
        for character in NO_LETTERS:
            self.assertEqual(raised(self, InvalidRun, LongText, ("a" + character, 1)).index, 0)
        for word in words_over("~\n", 2)[1:]:
            self.assertEqual(LongText((word, 2)).part(0, 2 * len(word)), word * 2)


if __name__ == "__main__":
    unittest.main()
