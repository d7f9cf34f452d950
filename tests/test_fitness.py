"""Promise 17, for each of the functions that ask for every text."""

import unittest

from anchoredits import compare
from anchoredits.anchors import spoiled, stays
from anchoredits.edits import AtOnce, Every, First, Once, Perhaps
from anchoredits.errors import NoBack, OutOfRange, TooLong, Unbounded
from anchoredits.machines import Machine
from anchoredits.programs import Program
from anchoredits.sets import TextSet

from samples import raised

FIT = Program(Once("a", "b"))

# Each question that takes one program.
ONE = {
    "of": Machine.of,
    "unchanged": compare.unchanged,
    "exchangeable": lambda program: compare.exchangeable(program, 0),
    "exchangeable, out of range": lambda program: compare.exchangeable(program, None),
    "orders_alike": compare.orders_alike,
    "needless": compare.needless,
    "back": compare.back,
    "unrestored": compare.unrestored,
    "doubled": compare.doubled,
    "one_edit": compare.one_edit,
    "unheld": lambda program: compare.unheld(TextSet.every(), program, TextSet()),
}

# Each question that takes two programs.
TWO = {
    "parted": compare.parted,
    "within": compare.within,
    "agreeing": compare.agreeing,
    "orders": compare.orders,
}

EVERY = Every("a", "b")
OLDS_8 = Program(Once("abcd", ""), First("efg", ""), Perhaps("h", ""))
OLDS_9 = Program(Once("abcd", ""), First("efg", ""), Perhaps("hi", ""))
NEWS_12 = Program(Once("a", "abcdef"), First("b", "ghijk"), Perhaps("c", "l"))
NEWS_13 = Program(Once("a", "abcdef"), First("b", "ghijk"), Perhaps("c", "lm"))
PARTS_8_12 = Program(AtOnce(("abc", "defgh"), ("de", "ijk"), ("f", "l")), AtOnce(("gh", "mno")))
PARTS_9 = Program(AtOnce(("abc", ""), ("de", ""), ("f", "")), AtOnce(("ghi", "")))
PARTS_13 = Program(AtOnce(("a", "defgh"), ("b", "ijk"), ("c", "lm")), AtOnce(("d", "nop")))
BOTH = Program(Once("abcdefghi", "j" * 13))
ALL_THREE = Program(Once("abcdefghi", "j" * 13), EVERY)

AT_THE_BOUNDS = [OLDS_8, NEWS_12, PARTS_8_12, Program(), Program(AtOnce()), Program(Once("a" * 8, "b" * 12))]
BEYOND = [
    (OLDS_9, TooLong, 8), (NEWS_13, TooLong, 12), (PARTS_9, TooLong, 8), (PARTS_13, TooLong, 12),
    # The olds come ahead of the news, and an Every ahead of both.
    (BOTH, TooLong, 8), (ALL_THREE, Unbounded, 1),
    (Program(Once("a" * 40, "b" * 40), Once("a" * 40, "b" * 40)), TooLong, 8),
    (Program(*[Once("ab", "abc")] * 4), None, None),
    (Program(*[Once("ab", "abc")] * 3, Once("abc", "abc")), TooLong, 8),
    (Program(*[Once("ab", "abc")] * 3, Once("ab", "abcd")), TooLong, 12),
    (Program(EVERY), Unbounded, 0), (Program(EVERY, EVERY), Unbounded, 0),
    (Program(Once("a", "b"), EVERY), Unbounded, 1), (Program(AtOnce(), Once("a", "b"), EVERY), Unbounded, 2),
    (Program(First("a", "b"), AtOnce(), Once("a", "b"), EVERY), Unbounded, 3),
    (Program(OLDS_9.edits[0], OLDS_9.edits[1], OLDS_9.edits[2], EVERY), Unbounded, 3),
]


class FitnessTest(unittest.TestCase):
    def assert_raised(self, error, told, action, *args):
        if error is None:
            action(*args)
            return
        caught = raised(self, error, action, *args)
        number = caught.index if error is Unbounded else caught.limit
        self.assertEqual(number, told)
        self.assertIs(type(number), int)

    def assert_takes(self, action, *args):
        """That nothing of promise 17 is raised."""
        try:
            action(*args)
        except (NoBack, OutOfRange):
            pass

    def test_one_program(self):
        for name, action in ONE.items():
            for program, error, told in BEYOND:
                with self.subTest(name):
                    if error is not None:
                        self.assert_raised(error, told, action, program)
            for program in AT_THE_BOUNDS:
                with self.subTest(name):
                    self.assert_takes(action, program)

    def test_two_programs(self):
        for name, action in TWO.items():
            for program, error, told in BEYOND:
                with self.subTest(name):
                    self.assert_raised(error, told, action, program, FIT)
                    self.assert_raised(error, told, action, FIT, program)
        for action in (compare.parted, compare.within, compare.agreeing):
            for program in AT_THE_BOUNDS:
                action(program, FIT)
                action(FIT, program)

    def test_errors_of_the_first_program_come_first(self):
        wrong = [row for row in BEYOND if row[1] is not None]
        for action in TWO.values():
            for one, error, told in wrong:
                for other, _, _ in wrong:
                    self.assert_raised(error, told, action, one, other)

    def test_bounds_are_of_each_program_alone(self):
        for action in (compare.parted, compare.within, compare.agreeing):
            action(OLDS_8, Program(Once("a" * 8, "b" * 12)))
        self.assertEqual(len(compare.orders(Program(Once("abcd", "x" * 12)), Program(Once("efghijkl", "x" * 12)))), 4)

    def test_ahead_of_all_other_errors(self):
        for index in (None, -1, 7, "a", True):
            self.assert_raised(Unbounded, 0, compare.exchangeable, Program(EVERY), index)
            self.assert_raised(TooLong, 8, compare.exchangeable, OLDS_9, index)
            self.assert_raised(TooLong, 12, compare.exchangeable, NEWS_13, index)
        for action in (compare.back, compare.unrestored):
            self.assert_raised(Unbounded, 1, action, Program(First("a", ""), EVERY))
            self.assert_raised(TooLong, 8, action, Program(First("abcdefghi", "")))
            self.assert_raised(TooLong, 12, action, Program(First("a", ""), Once("a", "b" * 13)))

    def test_stays(self):
        stays(Once("ab", "xyz"), Program(Once("cdef", "uvwxyz"), AtOnce(("gh", "abc"))))
        for edit, program, error, told in (
                (Once("abc", ""), Program(Once("cdef", ""), AtOnce(("gh", ""))), TooLong, 8),
                (Once("a", "wxyz"), Program(Once("b", "uvwxyz"), AtOnce(("c", "abc"))), TooLong, 12),
                (Once("abcdefghi", "x" * 13), Program(), TooLong, 8),
                (Once("a", "x" * 13), Program(), TooLong, 12),
                (Once("a", ""), Program(EVERY), Unbounded, 0),
                (Once("abcdefghi", "x" * 13), Program(AtOnce(), EVERY), Unbounded, 1),
                (Once("a", "x" * 13), Program(Once("abcdefgh", "")), TooLong, 8)):
            self.assert_raised(error, told, stays, edit, program)

    def test_spoiled(self):
        spoiled(Once("ab", "xyz"), [Once("cdef", "uvwxyz"), Once("gh", "abc")])
        spoiled(Once("abcd", "uvwxyz"), [Once("cdef", "uvwxyz")])
        for edit, others, error, told in (
                (Once("abc", ""), [Once("cdef", ""), Once("gh", "")], TooLong, 8),
                (Once("a", "wxyz"), [Once("b", "uvwxyz"), Once("c", "abc")], TooLong, 12),
                (Once("abcde", ""), [Once("cdef", "")], TooLong, 8),
                (Once("abcdefghi", "x" * 13), [Once("a", "")], TooLong, 8),
                (Once("a", ""), [Once("b", ""), Once("c", "x" * 13)], TooLong, 12)):
            self.assert_raised(error, told, spoiled, edit, others)


if __name__ == "__main__":
    unittest.main()
