import copy
import random
import unittest

from anchoredits.edits import AtOnce, Every, First, Once, Perhaps
from anchoredits.errors import InvalidEdit, InvalidText, NoMirror, NoPlace, Overlap, TooMany
from anchoredits.programs import Program

from samples import NO_STRINGS, NO_TEXTS, naive_outcome, raised, random_programs, words_over

KINDS = [Once, First, Perhaps, Every, AtOnce]

# For each edit texts, and for each text what is behind it, or the number of places with which it is not right.
ORDINARY = [
    (Once("two", "2"), {"one two three": "one 2 three", "two": "2", "one": 0, "two two": 2, "": 0, "twotwotwo": 3}),
    (Once("aa", "b"), {"aa": "b", "aaa": 2, "aaaa": 3, "caac": "cbc", "aabaa": 2}),
    (Once("ab", ""), {"ab": "", "aabb": "ab", "abab": 2}),
    (Once("a", "aa"), {"a": "aa", "bab": "baab", "aa": 2}),
    (Once("a", "a"), {"a": "a", "ba": "ba", "b": 0}),
    (First("two", "2"), {"two two": "2 two", "one two": "one 2", "one": 0, "": 0}),
    (First("aa", "b"), {"aaa": "ba", "aa": "b", "aaaaa": "baaa", "a": 0}),
    (First("a", "ba"), {"aa": "baa", "ca": "cba"}),
    (Perhaps("two", "2"), {"one two": "one 2", "one": "one", "": "", "two two": 2}),
    (Perhaps("aa", "b"), {"a": "a", "aa": "b", "aaa": 2}),
    (Perhaps("a", "aa"), {"bab": "baab", "b": "b"}),
    (Every("two", "2"), {"two two": "2 2", "one two": "one 2", "one": 0, "": 0}),
    (Every("aa", "b"), {"aaa": "ba", "aaaa": "bb", "aaaaa": "bba", "aabaa": "bbb", "a": 0}),
    (Every("aba", "x"), {"ababa": "xba", "abaaba": "xx", "abababa": "xbx"}),
    # What is put, and what it makes together with its neighbours, is not looked at again.
    (Every("a", "aa"), {"a": "aa", "aba": "aabaa"}),
    (Every("ab", "a"), {"abb": "ab", "ababb": "aab"}),
    (Every("ab", ""), {"aabb": "ab", "ab": ""}),
    (AtOnce(), {"": "", "abc": "abc"}),
    (AtOnce(("a", "b"), ("b", "a")), {"ab": "ba", "cbca": "cacb", "a": 0, "abb": 2, "b": 0, "aab": 2}),
    # They may touch.
    (AtOnce(("ab", "1"), ("cd", "2")), {"abcd": "12", "cdab": "21", "ab": 0, "abcdcd": 2}),
    (AtOnce(("a", "xa"), ("b", ""), ("c", "cc")), {"cab": "ccxa", "abc": "xacc"}),
]

# For each AtOnce texts in which all olds have one place, but two of these overlap.
OVERLAPPING = [
    (AtOnce(("ab", "1"), ("bc", "2")), ["abc", "xabcx"]),
    (AtOnce(("bc", "1"), ("ab", "2")), ["abc"]),
    (AtOnce(("abc", "1"), ("b", "2")), ["abc"]),
    (AtOnce(("b", "1"), ("abc", "2")), ["abc"]),
    (AtOnce(("ab", "1"), ("abc", "2")), ["abc", "cabc"]),
    (AtOnce(("bc", "1"), ("abc", "2")), ["abc"]),
    (AtOnce(("x", ""), ("ab", "1"), ("bc", "2")), ["abcx", "xabc"]),
    (AtOnce(("ab", "1"), ("x", ""), ("bc", "2")), ["abcx", "xabc"]),
]

# Texts for each AtOnce, with the number of places of its first old that has not exactly one.
FIRST_WRONG_OLD = [
    (AtOnce(("a", ""), ("b", "")), {"": 0, "aa": 2, "aab": 2, "a": 0, "abb": 2, "abbb": 3, "aaabb": 3, "bb": 0}),
    (AtOnce(("aa", ""), ("b", "")), {"aaab": 2, "aab": None, "aabb": 2}),
    # A wrong number is told ahead of places that overlap.
    (AtOnce(("ab", ""), ("bc", ""), ("d", "")), {"abc": 0, "abcdd": 2, "dabc": "overlap"}),
]


class ProgramsTest(unittest.TestCase):
    def assert_no_place(self, program, text, index, number):
        error = raised(self, NoPlace, program.run, text)
        self.assertEqual((error.index, error.number), (index, number))
        self.assertIs(type(error.index), int)
        self.assertIs(type(error.number), int)
        self.assertIs(program.is_right(text), False)


class RunTest(ProgramsTest):
    def test_each_kind(self):
        for edit, cases in ORDINARY:
            for text, told in cases.items():
                with self.subTest(edit=vars(edit), text=text):
                    program = Program(edit)
                    if isinstance(told, str):
                        self.assertEqual(program.run(text), told)
                        self.assertEqual(program.run(text=text), told)
                        self.assertIs(type(program.run(text)), str)
                        self.assertIs(program.is_right(text), True)
                    else:
                        self.assert_no_place(program, text, 0, told)

    def test_first_wrong_old_of_an_at_once(self):
        for edit, cases in FIRST_WRONG_OLD:
            for text, number in cases.items():
                if number is None:
                    self.assertTrue(Program(edit).is_right(text))
                elif number == "overlap":
                    self.assertEqual(raised(self, Overlap, Program(edit).run, text).index, 0)
                else:
                    self.assert_no_place(Program(edit), text, 0, number)

    def test_overlap(self):
        for edit, texts in OVERLAPPING:
            for text in texts:
                for ahead in range(4):
                    program = Program(*[Perhaps("z", "")] * ahead, edit)
                    index = raised(self, Overlap, program.run, text).index
                    self.assertEqual(index, ahead)
                    self.assertIs(type(index), int)
                    self.assertIs(program.is_right(text), False)

    def test_one_after_the_other(self):
        program = Program(Once("a", "b"), Once("b", "c"), Once("c", "de"), Once("e", ""))
        self.assertEqual(program.run("xax"), "xdx")
        self.assertEqual(Program().run("abc"), "abc")
        self.assertEqual(Program().run(""), "")
        self.assertIs(Program().is_right(""), True)

    def test_first_edit_that_is_not_right(self):
        program = Program(Once("a", "b"), Once("b", "c"), First("c", "d"), Every("e", "f"))
        self.assert_no_place(program, "", 0, 0)
        self.assert_no_place(program, "aa", 0, 2)
        self.assert_no_place(program, "ab", 1, 2)
        self.assert_no_place(program, "abb", 1, 3)
        self.assert_no_place(program, "a", 3, 0)
        self.assertEqual(program.run("aec"), "dfc")
        self.assert_no_place(Program(First("a", ""), Once("aa", "")), "aaaa", 1, 2)

    def test_any_value_that_is_no_text(self):
        for program in (Program(), Program(Once("a", "b"))):
            for value in NO_STRINGS + NO_TEXTS:
                before = copy.deepcopy(value)
                self.assertIs(raised(self, InvalidText, program.run, value).value, value)
                self.assertIs(raised(self, InvalidText, program.is_right, value).value, value)
                self.assertIs(raised(self, InvalidText, list, program.steps(value)).value, value)
                self.assertEqual(value, before)

    def test_beside_a_plain_way(self):
        for program in random_programs(random.Random(1), "ab", 400, KINDS):
            for text in words_over("abc", 4) + words_over("ab", 6):
                told = naive_outcome(program, text)
                self.assertIs(program.is_right(text), told is not None)
                if told is None:
                    with self.assertRaises((NoPlace, Overlap)):
                        program.run(text)
                else:
                    self.assertEqual(program.run(text), told)

    def test_long_texts(self):
        text = "ab" * 20000 + "c"
        self.assertEqual(Program(Every("ab", "d"), Once("c", "e")).run(text), "d" * 20000 + "e")
        self.assert_no_place(Program(Once("ba", "")), text, 0, 19999)


class StepsTest(ProgramsTest):
    def test_each_step(self):
        program = Program(Once("a", "b"), First("b", "cc"), Every("c", "d"))
        self.assertEqual(list(program.steps("ab")), ["ab", "bb", "ccb", "ddb"])
        self.assertEqual(list(program.steps(text="ab")), ["ab", "bb", "ccb", "ddb"])
        self.assertEqual(list(Program().steps("ab")), ["ab"])

    def test_up_to_its_error(self):
        program = Program(Once("a", "b"), Once("b", "c"))
        steps = program.steps("ab")
        self.assertEqual(next(steps), "ab")
        self.assertEqual(next(steps), "bb")
        error = raised(self, NoPlace, next, steps)
        self.assertEqual((error.index, error.number), (1, 2))
        steps = Program(Perhaps("x", ""), AtOnce(("ab", ""), ("bc", ""))).steps("abc")
        self.assertEqual([next(steps), next(steps)], ["abc", "abc"])
        self.assertEqual(raised(self, Overlap, next, steps).index, 1)

    def test_begins_with_the_text_whatever_follows(self):
        steps = Program(Once("a", "b")).steps("xyz")
        self.assertEqual(next(steps), "xyz")
        self.assertEqual(raised(self, NoPlace, next, steps).number, 0)

    def test_no_text(self):
        steps = Program().steps(None)
        self.assertIsNone(raised(self, InvalidText, next, steps).value)

    def test_two_side_by_side(self):
        program = Program(Once("a", "b"), Once("b", "c"))
        one, other = program.steps("a"), program.steps("xa")
        told = [next(one), next(other), next(one), next(other), next(one), next(other)]
        self.assertEqual(told, ["a", "xa", "b", "xb", "c", "xc"])


class ProgramTest(ProgramsTest):
    def test_properties(self):
        edits = (Once("a", "b"), AtOnce(("c", "d"), ("e", "")), First("c", "bb"), AtOnce())
        program = Program(*edits)
        self.assertEqual(program.edits, edits)
        self.assertEqual(program.olds, ("a", "c", "e", "c"))
        self.assertEqual(program.news, ("b", "d", "", "bb"))
        for told in (program.edits, program.olds, program.news):
            self.assertIs(type(told), tuple)
        self.assertEqual((Program().edits, Program().olds, Program().news), ((), (), ()))
        self.assertEqual(Program(Perhaps("a", "b"), Every("c", "d")).olds, ("a", "c"))

    def test_len(self):
        for number in range(5):
            self.assertEqual(len(Program(*[Once("a", "b")] * number)), number)
        self.assertEqual(len(Program(AtOnce(("a", ""), ("b", "")))), 1)

    def test_no_edit(self):
        once = Once("a", "b")
        for value in NO_STRINGS + NO_TEXTS + ["", "a", [once], (once,), Program(once)]:
            for number in range(5):
                index = raised(self, InvalidEdit, Program, *[once] * number, value, None).index
                self.assertEqual(index, number)
                self.assertIs(type(index), int)

    def test_too_many(self):
        for number in (5, 6, 50):
            limit = raised(self, TooMany, Program, *[Once("a", "b")] * number).limit
            self.assertEqual(limit, 4)
            self.assertIs(type(limit), int)

    def test_no_edit_ahead_of_too_many(self):
        for index in range(9):
            edits = [Once("a", "b")] * 8
            edits.insert(index, "no edit")
            self.assertEqual(raised(self, InvalidEdit, Program, *edits).index, index)

    def test_given_list_is_copied(self):
        edits = [Once("a", "b"), Once("c", "d")]
        program = Program(*edits)
        edits.pop()
        self.assertEqual(len(program), 2)

    def test_then(self):
        a, b, c, d = [Once(letter, "x") for letter in "abcd"]
        self.assertEqual(Program(a).then(Program(b, c), Program(), Program(d)), Program(a, b, c, d))
        self.assertEqual(Program().then(), Program())
        self.assertEqual(Program(a, b).then(), Program(a, b))
        self.assertEqual(Program().then(Program(a)), Program(a))
        for others in ([Program(a, b, c)], [Program(a), Program(b, c)], [Program(a, b, c, d)] * 3):
            program = Program(a, b)
            self.assertEqual(raised(self, TooMany, program.then, *others).limit, 4)
            self.assertEqual(program, Program(a, b))
        program = Program(a)
        self.assertIsNot(program.then(), program)
        program.then(Program(b))
        self.assertEqual(program, Program(a))

    def test_equal(self):
        a, b = Once("a", "x"), Once("b", "x")
        self.assertIs(Program(a, b) == Program(Once("a", "x"), Once("b", "x")), True)
        self.assertIs(Program(a, b) != Program(a, b), False)
        self.assertIs(Program() == Program(), True)
        for other in (Program(b, a), Program(a), Program(), Program(a, b, b), Program(a, First("b", "x"))):
            self.assertIs(Program(a, b) == other, False)
            self.assertIs(Program(a, b) != other, True)
        for value in NO_STRINGS + ["", a, (a, b), [a, b], 2]:
            self.assertIs(Program(a, b) == value, False)
            self.assertIs(value == Program(a, b), False)
        self.assertIs(Program() == (), False)


class MirroredTest(ProgramsTest):
    def test_words(self):
        program = Program(Once("abc", "de"), Perhaps("fg", ""), AtOnce(("hi", "jk"), ("l", "mno")), AtOnce())
        told = Program(Once("cba", "ed"), Perhaps("gf", ""), AtOnce(("ih", "kj"), ("l", "onm")), AtOnce())
        self.assertEqual(program.mirrored(), told)
        self.assertEqual(program.mirrored().mirrored(), program)
        self.assertEqual(Program().mirrored(), Program())

    def test_mirrored_texts_and_results(self):
        for program in random_programs(random.Random(2), "ab", 150, [Once, Perhaps, AtOnce]):
            mirrored = program.mirrored()
            for text in words_over("abc", 3) + words_over("ab", 5):
                told = naive_outcome(program, text)
                self.assertEqual(naive_outcome(mirrored, text[::-1]), None if told is None else told[::-1])

    def test_no_mirror(self):
        for kind in (First, Every):
            for index in range(4):
                edits = [Once("a", "b"), AtOnce(), Perhaps("c", "d")]
                edits.insert(index, kind("ab", "cd"))
                told = raised(self, NoMirror, Program(*edits).mirrored).index
                self.assertEqual(told, index)
                self.assertIs(type(told), int)
        program = Program(Once("a", "b"), Every("a", "b"), First("a", "b"))
        self.assertEqual(raised(self, NoMirror, program.mirrored).index, 1)


if __name__ == "__main__":
    unittest.main()
