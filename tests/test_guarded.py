"""Folders with guards, and folders that count."""

import random
import unittest

from anchoredits.edits import AtOnce, Every, First, Once, Perhaps
from anchoredits.errors import (
    Broken, FileNotRight, InvalidFiles, InvalidName, InvalidText, NoFile, NoLabel, OutOfRange, TooLong, TooMany, Unbounded,
    Unsafe,
)
from anchoredits.folders import CountingFolder, Folder, GuardedCountingFolder, GuardedFolder, joined
from anchoredits.programs import Program
from anchoredits.sets import TextSet

from samples import NO_STRINGS, NO_TEXTS, by_number, naive_outcome, raised, random_programs, words_over
from test_folders import EIGHT, NO_NAMES, FoldersTest, random_change, redone_of, state_of
from test_sets import random_table

HAS_A = TextSet.having("a")
NO_B = TextSet.every() - TextSet.having("b")


class GuardedTest(FoldersTest):
    kind = GuardedFolder

    def make(self, files, guards):
        return self.kind(files, guards)

    def test_made(self):
        folder = self.make({"x": "a", "y": "ca"}, {"x": HAS_A, "y": HAS_A & NO_B, "z": TextSet()})
        self.assertEqual([folder.files, folder.moment, folder.undone, folder.depth, folder.labels],
                         [{"x": "a", "y": "ca"}, 0, 0, 0, ()])
        self.assertIsInstance(folder, Folder)
        self.assertEqual(self.kind(guards={}, files={"x": "b"}).files, {"x": "b"})
        for value in (None, {"x": 1}, {"X": "a"}, [("x", "a")]):
            self.assertIs(raised(self, InvalidFiles, self.make, value, {}).value, value)
        wrong = {"x": "\t", "y": "b"}
        self.assertIs(raised(self, InvalidFiles, self.make, wrong, {"y": HAS_A}).value, wrong)

    def test_broken_when_it_is_made(self):
        for files, guards, name in (
                ({"x": "b"}, {"x": HAS_A}, "x"), ({"y": "b", "x": "a"}, {"x": HAS_A, "y": HAS_A}, "y"),
                ({"y": "b", "x": "b"}, {"y": HAS_A, "x": HAS_A}, "x"), ({"x": ""}, {"x": TextSet()}, "x")):
            self.assertEqual(raised(self, Broken, self.make, files, guards).name, name)

    def test_broken_by_each_kind_of_change(self):
        folder = self.make({"x": "a", "y": "aa", "q": "ab"}, {"x": HAS_A, "y": HAS_A, "z": HAS_A})
        folder.keep("twice", Program(Once("a", "aa")), ["x"])
        folder.write("q", "b")
        folder.undo()
        gone, off = Program(Once("a", "")), Program(Every("a", ""))
        for action, name in (
                (lambda: folder.write("x", "b"), "x"), (lambda: folder.write("z", ""), "z"),
                (lambda: folder.apply({"x": gone}), "x"), (lambda: folder.apply({"q": gone, "y": off, "x": gone}), "x"),
                (lambda: folder.apply({"y": off, "q": off}), "y"),
                (lambda: folder.attempt(lambda same: same.write("x", "b")), "x"),
                (lambda: folder.explore(lambda same: same.apply({"y": off})), "y")):
            self.assertEqual(self.assert_nothing_done(folder, Broken, action).name, name)
        self.assertEqual(folder.undone, 1)
        # A file that has gone needs no guard; a file without one is free.
        folder.remove("x")
        folder.apply({"q": off})
        folder.write("z", "ba")
        folder.remove("z")
        folder.undo(3)
        folder.redo(3)
        self.assertEqual(folder.files, {"q": "b", "y": "aa"})

    def test_behind_all_other_errors(self):
        folder = self.make({**EIGHT, "a": "a"}, {"a": HAS_A, "h": HAS_A})
        gone = Program(Once("a", ""))
        self.assert_nothing_done(folder, NoFile, folder.apply, {"a": gone, "z": gone})
        told = self.assert_nothing_done(folder, FileNotRight, folder.apply, {"a": gone, "b": gone})
        self.assertEqual([told.name, told.index], ["b", 0])
        self.assert_nothing_done(folder, InvalidName, folder.write, "A", "b")
        self.assert_nothing_done(folder, InvalidText, folder.write, "a", None)
        self.assertEqual(self.assert_nothing_done(folder, TooMany, folder.write, "h", "b").limit, 8)
        self.assertEqual(self.assert_nothing_done(folder, Broken, folder.write, "a", "b").name, "a")
        self.assertIs(self.assert_nothing_done(folder, OutOfRange, folder.undo, None).value, None)

    def test_guards_are_copied(self):
        guards = {"x": HAS_A}
        folder = self.make({"x": "a"}, guards)
        guards["x"] = TextSet()
        guards["y"] = TextSet()
        folder.write("x", "aa")
        folder.write("y", "")
        guards.clear()
        self.assertEqual(raised(self, Broken, folder.write, "x", "b").name, "x")

    def test_keep_and_do(self):
        folder = self.make({"x": "a", "y": "ba", "z": "c"}, {"x": HAS_A, "y": HAS_A})
        self.assertIsNone(folder.keep("more", Program(First("a", "aa")), ["y", "x", "q"]))
        self.assertEqual([folder.moment, folder.labels], [0, ("more",)])
        self.assertIsNone(folder.do("more"))
        self.assertEqual([folder.files, folder.moment], [{"x": "aa", "y": "baa", "z": "c"}, 1])
        # A label that is there gets what is new; names of eight letters, and of files that are not there.
        folder.keep(names=["z", "abcdefgh"], program=Program(Once("c", "cc")), label="more")
        folder.keep("abcdefgh", Program(), [])
        folder.keep("all", Program(Perhaps("q", "")), ("x", "z"))
        self.assertEqual(folder.labels, ("abcdefgh", "all", "more"))
        self.assertEqual([type(folder.labels), type(folder.labels[0])], [tuple, str])
        folder.do(label="more")
        self.assertEqual(folder.files, {"x": "aa", "y": "baa", "z": "cc"})
        self.assertEqual(folder.blame("z"), ((2, (0, 0, 0)), (2, (0, 0, 1))))

    def test_do_without_files(self):
        folder = self.make({"x": "a"}, {})
        folder.keep("none", Program(Once("q", "")), [])
        folder.keep("gone", Program(Once("q", "")), ["y", "z"])
        folder.write("x", "b")
        folder.undo()
        folder.do("none")
        self.assertEqual([folder.files, folder.moment, folder.undone], [{"x": "a"}, 1, 0])
        folder.do("gone")
        self.assertEqual([folder.files, folder.moment, folder.undone], [{"x": "a"}, 2, 0])
        folder.write("y", "q")
        folder.do("gone")
        self.assertEqual([folder.files, folder.moment], [{"x": "a", "y": ""}, 4])

    def test_errors_of_do(self):
        folder = self.make({"x": "a", "y": "b", "z": "ab"}, {"x": HAS_A})
        folder.keep("first", Program(Once("a", "ca"), Once("b", "")), ["z", "y", "x"])
        folder.write("q", "")
        folder.undo()
        for value in NO_NAMES + ["x", "firs", "firstly"]:
            self.assertIs(self.assert_nothing_done(folder, NoLabel, folder.do, value).label, value)
        told = self.assert_nothing_done(folder, FileNotRight, folder.do, "first")
        self.assertEqual([told.name, told.index], ["x", 1])
        folder.remove("x")
        told = self.assert_nothing_done(folder, FileNotRight, folder.do, "first")
        self.assertEqual([told.name, told.index], ["y", 0])
        self.assertEqual(self.assert_nothing_done(folder, NoLabel, self.make({}, {}).do, "first").label, "first")

    def test_errors_of_keep_in_their_order(self):
        folder = self.make({"x": "a"}, {"x": HAS_A, "y": HAS_A & NO_B})
        unsafe = Program(Once("a", ""))
        for program, error in ((Program(Every("a", "")), Unbounded), (Program(Once("a" * 9, "")), TooLong),
                               (Program(Once("a", "b" * 13)), TooLong)):
            self.assert_nothing_done(folder, error, folder.keep, None, program, [None, "x"])
        self.assertEqual(raised(self, Unbounded, folder.keep, "x", Program(AtOnce(), Every("a" * 9, "")), ["x"]).index, 1)
        self.assertEqual(raised(self, TooLong, folder.keep, "x", Program(Once("a" * 9, "b" * 13)), ["x"]).limit, 8)
        self.assertEqual(raised(self, TooLong, folder.keep, "x", Program(Once("a", "b" * 13)), ["x"]).limit, 12)
        for value in NO_NAMES:
            self.assertIs(self.assert_nothing_done(folder, InvalidName, folder.keep, value, unsafe, [None, "x"]).value, value)
            self.assertIs(
                self.assert_nothing_done(folder, InvalidName, folder.keep, "ok", unsafe, ["x", value, "Y"]).value, value)
        told = self.assert_nothing_done(folder, Unsafe, folder.keep, "ok", unsafe, ["z", "y", "x"])
        self.assertEqual([told.name, told.case], ["x", "a"])
        self.assertEqual(folder.labels, ())
        folder.keep("ok", unsafe, ["z"])
        raised(self, Unsafe, folder.keep, "ok", unsafe, ["y"])
        folder.do("ok")
        self.assertEqual([folder.labels, folder.moment], [("ok",), 1])

    def test_unsafe(self):
        # The first name, with the first text: also if no such file is there, or if its text would do.
        folder = self.make({"x": "aa"}, {"x": HAS_A, "y": NO_B, "z": HAS_A & NO_B})
        for program, names, name, case in (
                (Program(Once("a", "c")), ["x"], "x", "a"), (Program(Once("c", "b")), ["z", "y"], "y", "c"),
                (Program(Once("c", "b")), ["z", "x"], "z", "ac"), (Program(First("a", "c")), ["z"], "z", "a"),
                (Program(Perhaps("a", "b")), ["z", "y", "x"], "x", "a"), (Program(Once("ca", "c")), ["x"], "x", "ca")):
            told = raised(self, Unsafe, folder.keep, "label", program, names)
            self.assertEqual([told.name, told.case], [name, case])
        for program, names in ((Program(Once("a", "ba")), ["x"]), (Program(Once("b", "c")), ["x", "y", "z"]),
                               (Program(Once("aa", "a")), ["x", "z"]), (Program(Once("a", "")), ["q"]), (Program(), ["x", "z"])):
            folder.keep("label", program, names)
        self.assertEqual(folder.labels, ("label",))

    def test_unsafe_beside_all_short_texts(self):
        chance = random.Random(91)
        words = by_number(words_over("\nab", 5))
        told = {}
        for program in random_programs(chance, "ab", 120, [Once, First, Perhaps, AtOnce]):
            guards = {name: TextSet.of_table(random_table(chance, "ab\n")) for name in ("x", "y")}
            wrong = [(name, word) for name in ("x", "y") for word in words if word in guards[name]
                     and naive_outcome(program, word) is not None and naive_outcome(program, word) not in guards[name]]
            folder = self.make({}, guards)
            try:
                folder.keep("label", program, ["y", "x"])
                self.assertEqual(wrong, [])
                told[None] = told.get(None, 0) + 1
            except Unsafe as error:
                if len(error.case) <= 5 and set(error.case) <= set("ab\n"):
                    self.assertEqual((error.name, error.case), wrong[0])
                told[error.name] = told.get(error.name, 0) + 1
        self.assertGreater(min(told.values()), 5)

    def test_keeping_is_no_change(self):
        folder = self.make({"x": "a"}, {})
        folder.write("x", "b")
        folder.undo()
        folder.keep("one", Program(), ["x"])
        self.assertEqual([folder.moment, folder.undone], [0, 1])

        def action(same):
            same.keep("two", Program(Once("b", "")), ["x"])
            same.keep("one", Program(Once("b", "c")), ["x"])
            raise KeyError

        self.assertRaises(KeyError, folder.attempt, action)
        self.assertRaises(KeyError, folder.explore, action)
        folder.explore(lambda same: same.keep("three", Program(), []))
        self.assertEqual(folder.labels, ("one", "three", "two"))
        folder.redo()
        self.assertEqual(folder.labels, ("one", "three", "two"))
        folder.do("one")
        self.assertEqual(folder.files, {"x": "c"})
        folder.undo(2)
        self.assertEqual(folder.labels, ("one", "three", "two"))

    def test_names_are_copied(self):
        folder = self.make({"x": "a", "y": "a"}, {})
        names = ["x"]
        folder.keep("label", Program(Once("a", "b")), names)
        names.append("y")
        names.remove("x")
        folder.do("label")
        self.assertEqual(folder.files, {"x": "b", "y": "a"})

    def test_joined(self):
        one = self.make({"x": "ac"}, {"x": HAS_A})
        other = Folder({"x": "ac"})
        one.write("y", "b")
        other.apply({"x": Program(Once("a", ""))})
        told = joined(one, other)
        self.assertEqual([type(told), told.files], [Folder, {"x": "c", "y": "b"}])


class CountsTest(FoldersTest):
    kind = CountingFolder

    def make(self, files):
        return self.kind(files)

    def test_counts(self):
        folder = self.make({"y": "a", "x": "ab"})
        self.assertEqual([folder.counts, folder.files, folder.moment], [{}, {"x": "ab", "y": "a"}, 0])
        folder.write("z", "q")
        folder.write("x", "ab")
        folder.apply({"y": Program(), "x": Program(Once("b", ""))})
        folder.apply({})
        folder.remove("z")
        self.assertEqual(list(folder.counts.items()), [("x", 2), ("y", 1), ("z", 2)])
        self.assertEqual([type(folder.counts), type(folder.counts["x"])], [dict, int])
        folder.counts["x"] = 9
        folder.counts.clear()
        self.assertEqual(folder.counts, {"x": 2, "y": 1, "z": 2})

    def test_undoing_and_redoing(self):
        folder = self.make({"x": ""})
        for number in range(5):
            folder.write("x", "a" * number)
        folder.undo(4)
        folder.redo(2)
        folder.undo(3)
        self.assertEqual(folder.counts, {"x": 5})
        folder.write("x", "b")
        self.assertEqual(folder.counts, {"x": 6})

    def test_trials(self):
        folder = self.make({"x": ""})

        def action(same):
            same.write("x", "a")
            same.write("y", "a")
            self.assertEqual(same.counts, {"x": number + 1, "y": number + 1})
            raise KeyError

        for number, method in enumerate((folder.attempt, folder.explore)):
            self.assertRaises(KeyError, method, action)
        self.assertEqual([folder.counts, folder.moment], [{"x": 2, "y": 2}, 0])
        folder.explore(lambda same: same.remove("x"))
        folder.attempt(lambda same: same.remove("x"))
        self.assertEqual(folder.counts, {"x": 4, "y": 2})

    def test_changes_that_raise_are_not_counted(self):
        folder = self.make({"x": "a"})
        wrong = Program(Once("q", ""))
        for action in (lambda: folder.write("X", ""), lambda: folder.write("x", None), lambda: folder.remove("y"),
                       lambda: folder.apply({"x": Program(), "y": wrong}), lambda: folder.apply({"x": wrong}),
                       lambda: folder.undo(1), lambda: folder.at(5), lambda: folder.blame("y")):
            self.assertRaises(Exception, action)
        folder.blame("x")
        folder.at(0)
        self.assertEqual(folder.counts, {})

    def test_invalid_files(self):
        for value in NO_STRINGS[:4] + [{"x": text} for text in NO_TEXTS[:3]] + [{"X": ""}]:
            self.assertIs(raised(self, InvalidFiles, self.make, value).value, value)

    def test_beside_a_plain_folder(self):
        chance = random.Random(92)
        for _ in range(20):
            files = {name: "".join(chance.choice("ab") for _ in range(4)) for name in "abc"}
            folder, plain, counts = self.make(files), Folder(files), {}
            for _ in range(20):
                word, arguments = random_change(chance, plain)
                named = {"write": arguments[:1], "remove": arguments[:1], "apply": arguments[0]}.get(word, ())
                for name in named:
                    counts[name] = counts.get(name, 0) + 1
                getattr(folder, word)(*arguments)
                getattr(plain, word)(*arguments)
                self.assertEqual([state_of(folder), redone_of(folder)], [state_of(plain), redone_of(plain)])
                self.assertEqual(list(folder.counts.items()), sorted(counts.items()))


class GuardedAndCountingTest(GuardedTest):
    """All that holds for guarded folders holds for those that count, too."""

    kind = GuardedCountingFolder

    def test_counts_of_do(self):
        folder = GuardedCountingFolder(guards={"x": HAS_A}, files={"x": "a", "y": "b"})
        self.assertEqual(folder.counts, {})
        folder.keep("some", Program(Perhaps("q", "")), ["z", "y"])
        folder.keep("none", Program(), ["q"])
        self.assertEqual(folder.counts, {})
        folder.do("some")
        folder.do("none")
        self.assertEqual(folder.counts, {"y": 1})
        folder.write("z", "")
        folder.do("some")
        folder.undo(2)
        folder.explore(lambda same: same.do("some"))
        self.assertEqual(folder.counts, {"y": 3, "z": 2})

    def test_broken_changes_are_not_counted(self):
        folder = GuardedCountingFolder({"x": "a"}, {"x": HAS_A})
        raised(self, Broken, folder.write, "x", "b")
        raised(self, Broken, folder.apply, {"x": Program(Once("a", ""))})
        folder.keep("more", Program(Once("q", "")), ["x"])
        raised(self, FileNotRight, folder.do, "more")
        self.assertEqual(folder.counts, {})


class GuardedCountsTest(CountsTest):
    """All that holds for counting folders holds for those with guards, too."""

    def make(self, files):
        return GuardedCountingFolder(files, {"q": TextSet()})


class ClassesTest(unittest.TestCase):
    def test_one_below_the_other(self):
        for below, above in ((GuardedFolder, Folder), (CountingFolder, Folder), (GuardedCountingFolder, GuardedFolder),
                             (GuardedCountingFolder, CountingFolder)):
            self.assertTrue(issubclass(below, above))
        self.assertFalse(issubclass(GuardedFolder, CountingFolder))
        self.assertFalse(issubclass(CountingFolder, GuardedFolder))
        self.assertEqual(GuardedFolder.__bases__, (Folder,))
        self.assertEqual(CountingFolder.__bases__, (Folder,))


if __name__ == "__main__":
    unittest.main()
