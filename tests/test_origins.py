import random
import unittest

from anchoredits.edits import AtOnce, Every, First, Once, Perhaps
from anchoredits.errors import InvalidText, NoPlace, Overlap
from anchoredits.origins import origins
from anchoredits.programs import Program

from samples import NO_STRINGS, NO_TEXTS, naive_outcome, raised, random_programs, words_over


class OriginsTest(unittest.TestCase):
    def assert_origins(self, program, text, told):
        entries = origins(program, text)
        self.assertEqual(entries, told)
        self.assertIs(type(entries), tuple)
        for entry in entries:
            self.assertIn(type(entry), (int, tuple))

    def test_letters_that_stay(self):
        self.assert_origins(Program(), "abc", (0, 1, 2))
        self.assert_origins(Program(), "", ())
        self.assert_origins(Program(AtOnce()), "ab", (0, 1))
        self.assert_origins(Program(Perhaps("x", "y")), "ab", (0, 1))

    def test_letters_that_are_put(self):
        self.assert_origins(Program(Once("b", "xyz")), "abc", (0, (0, 0, 0), (0, 0, 1), (0, 0, 2), 2))
        self.assert_origins(Program(Once("bc", "")), "abcd", (0, 3))
        self.assert_origins(Program(Once("ab", "x")), "ab", ((0, 0, 0),))
        self.assert_origins(Program(Once("ab", "")), "ab", ())
        self.assert_origins(Program(First("a", "x")), "baa", (0, (0, 0, 0), 2))
        self.assert_origins(Program(Perhaps("a", "xy")), "ba", (0, (0, 0, 0), (0, 0, 1)))
        self.assert_origins(Program(Every("aa", "bc")), "aaaaa", ((0, 0, 0), (0, 0, 1)) * 2 + (4,))

    def test_parts(self):
        program = Program(Perhaps("z", ""), AtOnce(("b", "xy"), ("a", "z")))
        self.assert_origins(program, "acb", ((1, 1, 0), 1, (1, 0, 0), (1, 0, 1)))
        program = Program(AtOnce(("a", ""), ("b", "b"), ("c", "cc")))
        self.assert_origins(program, "cba", ((0, 2, 0), (0, 2, 1), (0, 1, 0)))

    def test_a_letter_put_for_itself(self):
        self.assert_origins(Program(Once("ab", "ab")), "cab", (0, (0, 0, 0), (0, 0, 1)))
        self.assert_origins(Program(Every("a", "a")), "aba", ((0, 0, 0), 1, (0, 0, 0)))

    def test_several_edits(self):
        program = Program(Once("a", "bc"), Once("bcd", "xby"))
        self.assert_origins(program, "ade", ((1, 0, 0), (1, 0, 1), (1, 0, 2), 2))
        program = Program(Once("a", "bc"), Once("c", "d"), Once("x", ""))
        self.assert_origins(program, "axy", ((0, 0, 0), (1, 0, 0), 2))
        program = Program(Once("a", "a"), Once("a", "a"), Once("a", "a"), Once("b", "b"))
        self.assert_origins(program, "cab", (0, (2, 0, 0), (3, 0, 0)))

    def test_by_name(self):
        self.assertEqual(origins(text="ab", program=Program(Once("a", "x"))), ((0, 0, 0), 1))

    def test_errors_as_for_run(self):
        for value in NO_STRINGS + NO_TEXTS:
            self.assertIs(raised(self, InvalidText, origins, Program(Once("a", "b")), value).value, value)
        error = raised(self, NoPlace, origins, Program(Once("a", "b"), Once("bb", "")), "abbb")
        self.assertEqual((error.index, error.number), (1, 3))
        self.assertEqual(raised(self, Overlap, origins, Program(AtOnce(("ab", ""), ("bc", ""))), "abc").index, 0)

    def test_letters_are_those_of_the_result(self):
        for program in random_programs(random.Random(3), "ab", 200, [Once, First, Perhaps, Every, AtOnce]):
            for text in words_over("abc", 4):
                told = naive_outcome(program, text)
                if told is None:
                    continue
                entries = origins(program, text)
                kept = [entry for entry in entries if isinstance(entry, int)]
                self.assertEqual(kept, sorted(set(kept)))
                letters = []
                for entry in entries:
                    if isinstance(entry, int):
                        letters.append(text[entry])
                    else:
                        edit, part, place = entry
                        edit = program.edits[edit]
                        new = edit.parts[part][1] if isinstance(edit, AtOnce) else edit.new
                        letters.append(new[place])
                self.assertEqual("".join(letters), told)


if __name__ == "__main__":
    unittest.main()
