"""Folders: changes, undoing, trials, blame and joining. Those with guards and counts are in test_guarded.py."""

import itertools
import random
import unittest

from anchoredits.edits import AtOnce, Every, First, Once, Perhaps
from anchoredits.errors import (
    Apart, FileNotRight, InvalidFiles, InvalidName, InvalidText, NoFile, OutOfRange, TooMany, Unlike,
)
from anchoredits.folders import Folder, joined
from anchoredits.origins import origins
from anchoredits.programs import Program

from samples import NO_STRINGS, NO_TEXTS, naive_outcome, raised, random_programs

KINDS = [Once, First, Perhaps, Every, AtOnce]

NO_NAMES = NO_STRINGS + ["", "A", "a1", "a b", "a_b", "abcdefghi", "a\n", " a", "-", "a" * 50, "\xe4", "aA", "a%", "\t"]

EIGHT = {name: name for name in ["a", "b", "c", "d", "e", "f", "g", "abcdefgh"]}


class Stop(BaseException):
    """What a trial raises."""


def state_of(folder):
    """All that can be told of a folder from outside, but for its counts."""
    return (folder.files, folder.moment, folder.undone, folder.depth,
            [folder.at(number) for number in range(folder.moment + 1)],
            {name: folder.blame(name) for name in folder.files})


def redone_of(folder):
    """What can be redone, in order; the folder stays as it is."""
    told = []

    def action(same):
        while same.undone:
            same.redo()
            told.append((same.files, {name: same.blame(name) for name in same.files}))

    folder.explore(action)
    return told


class FoldersTest(unittest.TestCase):
    def assert_nothing_done(self, folder, error, action, *args):
        """The error that a call raises, behind which the folder is as before."""
        before, redone = state_of(folder), redone_of(folder)
        told = raised(self, error, action, *args)
        self.assertEqual([state_of(folder), redone_of(folder)], [before, redone])
        return told

    def folder(self):
        """A folder with two changes that are done and one that can be redone."""
        folder = Folder({"b": "bcd", "a": "abc"})
        folder.write("c", "xyz")
        folder.apply({"a": Program(Once("b", "xy")), "b": Program(First("b", ""))})
        folder.remove("c")
        folder.undo()
        return folder


class MadeTest(FoldersTest):
    def test_properties(self):
        folder = Folder({"b": "x", "a": "", "abcdefgh": "\n"})
        self.assertEqual(list(folder.files.items()), [("a", ""), ("abcdefgh", "\n"), ("b", "x")])
        self.assertEqual([folder.moment, folder.undone, folder.depth], [0, 0, 0])
        self.assertEqual([type(folder.files), type(folder.moment), type(folder.undone), type(folder.depth)],
                         [dict, int, int, int])
        self.assertEqual(Folder({}).files, {})
        self.assertEqual(Folder(files=EIGHT).files, EIGHT)
        self.assertEqual(list(Folder(EIGHT).files), sorted(EIGHT))

    def test_invalid_files(self):
        wrong = [value for value in NO_STRINGS if not isinstance(value, dict)]
        wrong += ["", "a", {**EIGHT, "h": ""}, {"a": None}, {"a": 1}, {"a": b"x"}, {"a": ["x"]}, {"a": {}}, {1: "x"},
                  {None: "x"}, {("a",): "x"}, {True: "x"}, {"b": "x", "a": "\t"}, {"a": "x", "B": "x"}, [("a", "x")], {"a": {"a": "x"}}]
        wrong += [{name: "x"} for name in NO_NAMES if isinstance(name, str)]
        wrong += [{"a": "x", "b": text} for text in NO_TEXTS]
        for value in wrong:
            self.assertIs(raised(self, InvalidFiles, Folder, value).value, value)

    def test_what_is_handed_in_or_returned_may_be_changed(self):
        files = {"a": "x"}
        folder = Folder(files)
        files["b"] = "y"
        del files["a"]
        folder.files["a"] = "z"
        folder.files.clear()
        folder.at(0)["a"] = "z"
        programs = {"a": Program(Once("x", "yz"))}
        folder.apply(programs)
        programs["a"] = Program(Once("x", ""))
        programs.clear()
        folder.at(1).clear()
        self.assertEqual([folder.files, folder.at(0), folder.at(1)], [{"a": "yz"}, {"a": "x"}, {"a": "yz"}])
        self.assertEqual(folder.blame("a"), ((1, (0, 0, 0)), (1, (0, 0, 1))))


class ChangesTest(FoldersTest):
    def test_apply(self):
        folder = self.folder()
        self.assertEqual(folder.files, {"a": "axyc", "b": "cd", "c": "xyz"})
        self.assertEqual([folder.moment, folder.undone], [2, 1])
        self.assertIsNone(folder.apply(programs={"a": Program(Once("x", "")), "c": Program()}))
        self.assertEqual(folder.files, {"a": "ayc", "b": "cd", "c": "xyz"})
        self.assertEqual([folder.moment, folder.undone], [3, 0])
        # One change, even if it names no file.
        folder.undo(3)
        self.assertIsNone(folder.apply({}))
        self.assertEqual([folder.files, folder.moment, folder.undone], [{"a": "abc", "b": "bcd"}, 1, 0])

    def test_errors_of_apply(self):
        right, wrong = Program(Once("c", "")), Program(Once("c", ""), Once("q", ""), Once("q", ""))
        folder = self.folder()
        for programs, name in (({"z": right, "d": right, "a": right}, "d"), ({"abc": wrong, "a": wrong}, "abc"),
                               ({"": right}, ""), ({"A": right}, "A"), ({"b": wrong, "zz": wrong, "z": right}, "z"),
                               ({"a\n": right, "a": wrong}, "a\n")):
            self.assertEqual(self.assert_nothing_done(folder, NoFile, folder.apply, programs).name, name)
        for programs, name, index in (({"a": right, "b": wrong}, "b", 1), ({"b": wrong, "a": wrong}, "a", 1),
                                      ({"c": Program(Once("c", "")), "b": right, "a": right}, "c", 0),
                                      ({"b": Program(AtOnce(("c", ""), ("d", "")), AtOnce(("a", ""))), "a": right}, "b", 1),
                                      ({"c": Program(AtOnce(), Perhaps("q", ""), AtOnce(("xy", ""), ("yz", "")))}, "c", 2)):
            told = self.assert_nothing_done(folder, FileNotRight, folder.apply, programs)
            self.assertEqual([told.name, told.index], [name, index])
            self.assertIs(type(told.index), int)

    def test_write(self):
        folder = self.folder()
        self.assertIsNone(folder.write("a", "new"))
        self.assertIsNone(folder.write(text="", name="abcdefgh"))
        self.assertEqual(list(folder.files.items()), [("a", "new"), ("abcdefgh", ""), ("b", "cd"), ("c", "xyz")])
        self.assertEqual([folder.moment, folder.undone], [4, 0])
        # The same text again is a change, too.
        folder.write("a", "new")
        self.assertEqual(folder.moment, 5)

    def test_errors_of_write(self):
        for folder in (self.folder(), Folder(EIGHT)):
            for name in NO_NAMES:
                for text in ("x", None, "\t"):
                    self.assertIs(self.assert_nothing_done(folder, InvalidName, folder.write, name, text).value, name)
            for text in NO_STRINGS + NO_TEXTS:
                for name in ("a", "h"):
                    self.assertIs(self.assert_nothing_done(folder, InvalidText, folder.write, name, text).value, text)
        self.assertEqual(self.assert_nothing_done(folder, TooMany, folder.write, "h", "x").limit, 8)
        folder.write("a", "x")
        folder.remove("b")
        folder.write("h", "x")
        self.assertEqual(len(folder.files), 8)
        self.assertEqual(self.assert_nothing_done(folder, TooMany, folder.write, "b", "x").limit, 8)

    def test_remove(self):
        folder = self.folder()
        self.assertIsNone(folder.remove("a"))
        self.assertEqual([folder.files, folder.moment, folder.undone], [{"b": "cd", "c": "xyz"}, 3, 0])
        for value in NO_NAMES + ["a", "d", "z", "abcdefgh"]:
            told = self.assert_nothing_done(folder, NoFile, folder.remove, value)
            self.assertIs(told.name, value)
        folder.remove(name="b")
        folder.remove("c")
        self.assertEqual(folder.files, {})


class UndoTest(FoldersTest):
    def test_counts(self):
        folder = Folder({"a": ""})
        for number in range(1, 8):
            folder.write("a", "x" * number)
        for count, moment in ((0, 7), (1, 6), (3, 3), (0, 3), (3, 0), (0, 0)):
            self.assertIsNone(folder.undo(count))
            self.assertEqual([folder.moment, folder.undone, folder.files["a"]], [moment, 7 - moment, "x" * moment])
        for count, moment in ((0, 0), (2, 2), (1, 3), (4, 7), (0, 7)):
            self.assertIsNone(folder.redo(count=count))
            self.assertEqual([folder.moment, folder.undone, folder.files["a"]], [moment, 7 - moment, "x" * moment])
        folder.undo()
        folder.undo(count=2)
        folder.redo()
        self.assertEqual([folder.moment, folder.undone], [5, 2])

    def test_out_of_range(self):
        for folder in (Folder({}), self.folder()):
            for action, most in ((folder.undo, folder.moment), (folder.redo, folder.undone), (folder.at, folder.moment)):
                for value in NO_STRINGS + ["", "1", -1, most + 1, 10 ** 59, -10 ** 59]:
                    if type(value) is not int or not 0 <= value <= most:
                        self.assertIs(self.assert_nothing_done(folder, OutOfRange, action, value).value, value)
        self.assertEqual(raised(self, OutOfRange, Folder({}).undo).value, 1)
        self.assertEqual(raised(self, OutOfRange, Folder({}).redo).value, 1)

    def test_what_a_new_change_ends(self):
        for action in (lambda folder: folder.write("a", "x"), lambda folder: folder.remove("a"), lambda folder: folder.apply({}),
                       lambda folder: folder.apply({"a": Program()})):
            folder = Folder({"a": "x", "b": "y"})
            folder.write("b", "z")
            folder.write("b", "zz")
            folder.undo(2)
            action(folder)
            self.assertEqual([folder.moment, folder.undone, folder.at(0)], [1, 0, {"a": "x", "b": "y"}])
            self.assertEqual(raised(self, OutOfRange, folder.redo).value, 1)

    def test_at_each_moment(self):
        folder = self.folder()
        told = [folder.at(number=number) for number in range(3)]
        self.assertEqual(told, [{"a": "abc", "b": "bcd"}, {"a": "abc", "b": "bcd", "c": "xyz"},
                                {"a": "axyc", "b": "cd", "c": "xyz"}])
        self.assertEqual([list(files) for files in told], [["a", "b"], ["a", "b", "c"], ["a", "b", "c"]])
        folder.redo()
        self.assertEqual(folder.at(3), {"a": "axyc", "b": "cd"})


class TrialsTest(FoldersTest):
    def test_what_an_action_returns(self):
        for method in ("attempt", "explore"):
            for value in (None, 0, "", False, [], "ok", (1,)):
                folder = self.folder()
                self.assertIs(getattr(folder, method)(lambda same: value), value)
                self.assertEqual([folder.moment, folder.undone, folder.depth], [2, 1, 0])

    def test_the_folder_itself_and_its_depth(self):
        folder = self.folder()
        depths = []

        def inner(same):
            depths.append((same is folder, same.depth))
            if same.depth < 4:
                (same.explore if same.depth % 2 else same.attempt)(inner)
                depths.append(same.depth)

        folder.attempt(inner)
        self.assertEqual(depths, [(True, 1), (True, 2), (True, 3), (True, 4), 3, 2, 1])
        self.assertEqual(folder.depth, 0)
        self.assertRaises(Stop, folder.attempt, lambda same: same.explore(self.stop))
        self.assertEqual(folder.depth, 0)

    def stop(self, folder):
        raise Stop("no more")

    def test_attempt(self):
        folder = self.folder()
        self.assertIsNone(folder.attempt(lambda same: same.write("a", "new")))
        self.assertEqual([folder.files["a"], folder.moment, folder.undone], ["new", 3, 0])
        self.assertIsNone(folder.attempt(action=lambda same: same.undo(3)))
        self.assertEqual([folder.moment, folder.undone], [0, 3])

    def test_attempt_that_raises(self):
        for error in (Stop, ValueError, KeyboardInterrupt, NoFile, GeneratorExit):
            folder = self.folder()
            thrown = error("x")

            def action(same):
                same.undo(2)
                same.write("a", "new")
                same.remove("b")
                same.undo()
                raise thrown

            for method in (folder.attempt, folder.explore):
                before, redone = state_of(folder), redone_of(folder)
                with self.assertRaises(error) as caught:
                    method(action)
                self.assertIs(caught.exception, thrown)
                self.assertEqual([state_of(folder), redone_of(folder)], [before, redone])
            folder.redo()
            self.assertEqual(folder.files, {"a": "axyc", "b": "cd"})

    def test_explore(self):
        folder = self.folder()
        before, redone = state_of(folder), redone_of(folder)

        def action(same):
            same.undo(2)
            same.redo()
            same.write("abc", "new")
            return same.files

        self.assertEqual(folder.explore(action=action), {"a": "abc", "abc": "new", "b": "bcd", "c": "xyz"})
        self.assertEqual([state_of(folder), redone_of(folder)], [before, redone])

    def test_trials_within_trials(self):
        folder = Folder({"a": "0"})
        folder.write("a", "1")

        def outer(same):
            same.write("a", "2")
            with self.assertRaises(Stop):
                same.attempt(broken)
            self.assertEqual([same.files["a"], same.moment, same.undone], ["2", 2, 0])
            self.assertEqual(same.explore(inner), "3")
            self.assertEqual([same.files["a"], same.moment], ["2", 2])
            # What was done before this trial is undone in it.
            same.attempt(lambda again: again.undo(2))
            self.assertEqual([same.files["a"], same.undone], ["0", 2])
            same.write("a", "4")

        def broken(same):
            same.undo(2)
            same.attempt(lambda again: again.write("a", "9"))
            raise Stop

        def inner(same):
            same.attempt(lambda again: again.write("a", "3"))
            return same.files["a"]

        folder.attempt(outer)
        self.assertEqual([folder.files["a"], folder.moment, folder.undone, folder.at(0)["a"]], ["4", 1, 0, "0"])
        self.assertRaises(Stop, folder.attempt, lambda same: [same.attempt(outer), self.stop(same)])
        self.assertEqual([folder.files["a"], folder.moment], ["4", 1])

    def test_an_error_that_does_not_leave_the_action(self):
        folder = self.folder()

        def action(same):
            try:
                same.remove("zzz")
            except NoFile:
                same.write("a", "caught")

        folder.attempt(action)
        self.assertEqual([folder.files["a"], folder.moment], ["caught", 3])


class Model:
    """A folder as a list of moments, each (files, entries of blame)."""

    def __init__(self, files):
        self.moments = [(dict(files), {name: tuple((0, place) for place in range(len(text))) for name, text in files.items()})]
        self.gone = []

    def change(self, files, entries):
        self.moments.append((files, entries))
        self.gone = []

    def write(self, name, text):
        files, entries = map(dict, self.moments[-1])
        files[name] = text
        entries[name] = tuple((len(self.moments), place) for place in range(len(text)))
        self.change(files, entries)

    def remove(self, name):
        files, entries = map(dict, self.moments[-1])
        del files[name], entries[name]
        self.change(files, entries)

    def apply(self, programs):
        files, entries = map(dict, self.moments[-1])
        for name, program in programs.items():
            entries[name] = tuple(entries[name][origin] if type(origin) is int else (len(self.moments), origin)
                                  for origin in origins(program, files[name]))
            files[name] = program.run(files[name])
        self.change(files, entries)

    def undo(self, count):
        for _ in range(count):
            self.gone.append(self.moments.pop())

    def redo(self, count):
        for _ in range(count):
            self.moments.append(self.gone.pop())

    def state(self):
        return (self.moments[-1][0], len(self.moments) - 1, len(self.gone), 0, [files for files, _ in self.moments],
                self.moments[-1][1])


def random_change(chance, folder):
    """(method, arguments) of a call that is right for a folder."""
    files = folder.files
    words = ["apply", "apply", "apply", "write", "remove", "undo", "redo"]
    word = chance.choice(words)
    if word == "write" and len(files) < 8 or not files:
        return "write", (chance.choice("abcd"), "".join(chance.choice("ab") for _ in range(chance.randint(0, 5))))
    if word == "remove":
        return "remove", (chance.choice(sorted(files)),)
    if word in ("undo", "redo"):
        most = folder.moment if word == "undo" else folder.undone
        return word, (chance.randint(0, min(most, 2)),)
    programs = {}
    for name in sorted(files):
        for program in random_programs(chance, "ab", 4, KINDS):
            if chance.random() < 0.5 and naive_outcome(program, files[name]) is not None:
                programs[name] = program
    return "apply", (programs,)


class BlameTest(FoldersTest):
    def test_ordinary(self):
        folder = self.folder()
        self.assertEqual(folder.blame("a"), ((0, 0), (2, (0, 0, 0)), (2, (0, 0, 1)), (0, 2)))
        self.assertEqual(folder.blame(name="b"), ((0, 1), (0, 2)))
        self.assertEqual(folder.blame("c"), ((1, 0), (1, 1), (1, 2)))
        folder.apply({"c": Program(AtOnce(("z", "1"), ("y", "23")), First("2", ""))})
        self.assertEqual(folder.blame("c"), ((1, 0), (3, (0, 1, 1)), (3, (0, 0, 0))))
        self.assertEqual([type(folder.blame("c")), type(folder.blame("c")[0])], [tuple, tuple])
        # Behind undoing, the numbers among the present ones.
        folder.undo(2)
        folder.write("b", "q")
        self.assertEqual([folder.blame("a"), folder.blame("b"), folder.blame("c")],
                         [((0, 0), (0, 1), (0, 2)), ((2, 0),), ((1, 0), (1, 1), (1, 2))])

    def test_removed_and_written_again(self):
        folder = Folder({"a": "ab"})
        folder.remove("a")
        folder.write("a", "ab")
        self.assertEqual(folder.blame("a"), ((2, 0), (2, 1)))
        folder.write("a", "")
        self.assertEqual(folder.blame("a"), ())
        folder.undo(3)
        self.assertEqual(folder.blame("a"), ((0, 0), (0, 1)))

    def test_in_trials(self):
        folder = Folder({"a": "ab"})
        folder.apply({})

        def action(same):
            same.apply({"a": Program(Once("a", "x"))})
            return same.blame("a")

        self.assertEqual(folder.explore(action), ((2, (0, 0, 0)), (0, 1)))
        self.assertEqual(folder.blame("a"), ((0, 0), (0, 1)))
        self.assertEqual(folder.attempt(action), ((2, (0, 0, 0)), (0, 1)))
        self.assertEqual(folder.blame("a"), ((2, (0, 0, 0)), (0, 1)))

    def test_no_file(self):
        folder = self.folder()
        folder.remove("a")
        for value in NO_NAMES + ["a", "d", "abcdefgh"]:
            self.assertIs(raised(self, NoFile, folder.blame, value).name, value)

    def test_beside_a_plain_model(self):
        chance = random.Random(81)
        done = {}
        for _ in range(60):
            files = {name: "".join(chance.choice("ab") for _ in range(4)) for name in "abc"[:chance.randint(0, 3)]}
            folder, model = Folder(files), Model(files)
            for _ in range(25):
                word, arguments = random_change(chance, folder)
                done[word] = done.get(word, 0) + 1
                getattr(folder, word)(*arguments)
                getattr(model, word)(*arguments)
                self.assertEqual(state_of(folder), model.state())
                self.assertEqual([files for files, _ in redone_of(folder)], [files for files, _ in reversed(model.gone)])
        self.assertGreater(min(done.values()), 50)


class JoinedTest(FoldersTest):
    def folders(self, files, *changes):
        """A folder for each list of changes, (method, arguments)."""
        told = []
        for calls in changes:
            folder = Folder(files)
            for word, *arguments in calls:
                getattr(folder, word)(*arguments)
            told.append(folder)
        return told

    def assert_joined(self, one, other, files):
        for left, right in ((one, other), (other, one)):
            before = [state_of(folder) for folder in (left, right)]
            told = joined(left, right)
            self.assertIs(type(told), Folder)
            self.assertEqual([told.files, told.moment, told.undone, told.depth], [files, 0, 0, 0])
            self.assertEqual([state_of(folder) for folder in (left, right)], before)

    def assert_apart(self, one, other, name):
        for left, right in ((one, other), (other, one)):
            self.assertEqual(raised(self, Apart, joined, left, right).name, name)

    def edit(self, name, old, new):
        return ("apply", {name: Program(Once(old, new))})

    def test_hunks_of_both(self):
        one, other = self.folders({"a": "one two six", "b": "x"}, [self.edit("a", "one", "1"), self.edit("a", "1", "11")],
                                  [self.edit("a", "six", "6"), self.edit("b", "x", "y")])
        self.assert_joined(one, other, {"a": "11 two 6", "b": "y"})
        self.assertEqual(joined(other=one, one=other).files, {"a": "11 two 6", "b": "y"})
        # Equal hunks are done once.
        other.apply({"a": Program(Once("one", "11"))})
        self.assert_joined(one, other, {"a": "11 two 6", "b": "y"})
        # Hunks that touch, or overlap.
        other.undo()
        other.apply({"a": Program(Once(" two", ""))})
        self.assert_apart(one, other, "a")

    def test_without_changes_and_with_itself(self):
        folder = self.folder()
        same = Folder(folder.at(0))
        self.assert_joined(folder, same, folder.files)
        self.assert_joined(folder, folder, folder.files)
        self.assert_joined(same, same, same.files)
        # What is undone does not count.
        folder.undo(2)
        self.assert_joined(folder, same, same.files)
        self.assert_joined(Folder({}), Folder({}), {})

    def test_letters_that_are_put_again(self):
        one, other = self.folders({"a": "abc"}, [("write", "a", "abc")], [self.edit("a", "b", "x")])
        self.assert_apart(one, other, "a")
        one, other = self.folders({"a": "abc"}, [("write", "a", "abc")], [("write", "a", "abc"), ("write", "a", "abc")])
        self.assert_joined(one, other, {"a": "abc"})
        one, other = self.folders({"a": "abc"}, [("write", "a", "abc")], [("write", "a", "abd")])
        self.assert_apart(one, other, "a")
        one, other = self.folders({"a": "abc"}, [("write", "a", "abc")], [])
        self.assert_joined(one, other, {"a": "abc"})
        # A letter of the first files that is kept through several changes.
        one, other = self.folders({"a": "abc"}, [self.edit("a", "c", "d"), self.edit("a", "a", "b")], [])
        self.assert_joined(one, other, {"a": "bbd"})

    def test_files_that_are_removed(self):
        files = {"a": "abc", "b": ""}
        gone, same, edited, both_ways, again = self.folders(
            files, [("remove", "a")], [], [self.edit("a", "a", "x")], [self.edit("a", "a", "x"), ("remove", "a")],
            [("remove", "a"), ("write", "a", "abc")])
        self.assert_joined(gone, same, {"b": ""})
        self.assert_joined(gone, gone, {"b": ""})
        self.assert_joined(gone, both_ways, {"b": ""})
        self.assert_apart(gone, edited, "a")
        # What is written again is put, even if it reads alike.
        self.assert_apart(gone, again, "a")
        self.assert_apart(edited, again, "a")
        self.assert_joined(same, again, {"a": "abc", "b": ""})
        # An empty file has no hunk.
        gone, again = self.folders(files, [("remove", "b")], [("remove", "b"), ("write", "b", "")])
        self.assert_joined(gone, again, {"a": "abc"})
        self.assert_apart(gone, self.folders(files, [("write", "b", "x")])[0], "b")

    def test_files_that_are_new(self):
        one, other, unlike, none, gone = self.folders(
            {"a": "abc"}, [("write", "b", "x")], [("write", "b", "y"), ("write", "b", "x")], [("write", "b", "xx")], [],
            [("write", "b", "xx"), ("remove", "b")])
        self.assert_joined(one, other, {"a": "abc", "b": "x"})
        self.assert_joined(one, none, {"a": "abc", "b": "x"})
        self.assert_joined(one, gone, {"a": "abc", "b": "x"})
        self.assert_joined(gone, none, {"a": "abc"})
        self.assert_apart(one, unlike, "b")
        empty, = self.folders({"a": "abc"}, [("write", "b", "")])
        self.assert_apart(one, empty, "b")

    def test_first_file_that_is_apart(self):
        files = {"b": "abc", "c": "abc", "d": "abc"}
        one, other = self.folders(files, [("write", name, "x") for name in "dcbae"], [("write", name, "y") for name in "edcba"])
        self.assert_apart(one, other, "a")
        one.remove("a")
        self.assert_apart(one, other, "b")
        one.undo(4)
        self.assert_apart(one, other, "c")

    def test_errors_in_their_order(self):
        for one, other in (({}, {"a": ""}), ({"a": "x"}, {"a": "y"}), ({"a": "x"}, {"b": "x"}), ({"a": "", "b": ""}, {"a": ""})):
            left, right = Folder(one), Folder(other)
            self.assertEqual(vars(raised(self, Unlike, joined, left, right)), {})
            left.write("b", "1")
            right.write("b", "2")
            raised(self, Unlike, joined, left, right)
        # The files at the beginning, not those that are there now.
        left, right = self.folders({"a": "x"}, [("write", "a", "y")], [("remove", "a")])
        self.assert_apart(left, right, "a")
        one, other = self.folders({"a": ""}, [("write", name, "") for name in "bcdef"], [("write", name, "") for name in "ghi"])
        for left, right in ((one, other), (other, one)):
            self.assertEqual(raised(self, TooMany, joined, left, right).limit, 8)
        other.undo()
        self.assert_joined(one, other, dict.fromkeys("abcdefgh", ""))
        other.redo()
        other.write("a", "x")
        one.write("a", "y")
        self.assert_apart(one, other, "a")
        # Files that both have count once.
        one, other = self.folders({}, [("write", name, "") for name in "bcdef"], [("write", name, "") for name in "defgh"])
        self.assert_joined(one, other, dict.fromkeys("bcdefgh", ""))

    def test_beside_the_words_of_the_document(self):
        chance = random.Random(82)
        told = {}
        for _ in range(800):
            files = {name: "".join(chance.choice("abc") for _ in range(chance.randint(0, 8))) for name in "ab"}
            folders = []
            for _ in range(2):
                folder = Folder(files)
                for _ in range(chance.randint(0, 3)):
                    word, arguments = random_change(chance, folder)
                    getattr(folder, word)(*arguments)
                folders.append(folder)
            wanted, wrong = self.naive(files, *folders)
            if wrong is not None:
                self.assert_apart(*folders, wrong)
            else:
                self.assert_joined(*folders, wanted)
            told[wrong is None] = told.get(wrong is None, 0) + 1
        self.assertGreater(min(told.values()), 40)

    def naive(self, files, one, other):
        """(files, name): what comes of joining two folders, and the first file that is apart, or None."""
        wanted = {}
        for name in sorted({*files, *one.files, *other.files}):
            there = [folder for folder in (one, other) if name in folder.files]
            if name not in files:
                if len({folder.files[name] for folder in there}) > 1:
                    return None, name
                wanted[name] = there[0].files[name]
                continue
            hunks = [self.naive_hunks(files[name], folder, name) for folder in there]
            if len(there) < 2:
                if hunks and hunks[0]:
                    return None, name
                continue
            if any(left != right and left[0] <= right[1] and right[0] <= left[1]
                   for left, right in itertools.product(*hunks)):
                return None, name
            text = files[name]
            for first, last, new in sorted({*hunks[0], *hunks[1]}, reverse=True):
                text = text[:first] + new + text[last:]
            wanted[name] = text
        return wanted, None

    def naive_hunks(self, text, folder, name):
        """The hunks of the present text of a file, gap by gap."""
        result, entries = folder.files[name], folder.blame(name)
        kept = [place for place, entry in enumerate(entries) if entry[0] == 0]
        told = []
        for left, right in zip([None, *kept], [*kept, None]):
            first = 0 if left is None else entries[left][1] + 1
            last = len(text) if right is None else entries[right][1]
            new = result[0 if left is None else left + 1:len(result) if right is None else right]
            if first < last or new:
                told.append((first, last, new))
        return told


if __name__ == "__main__":
    unittest.main()
