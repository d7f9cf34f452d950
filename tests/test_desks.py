import random
import unittest

from anchoredits.anchors import windows
from anchoredits.compare import parted
from anchoredits.desks import Desk
from anchoredits.edits import AtOnce, Once, Perhaps
from anchoredits.errors import (
    FileNotRight, InvalidNew, InvalidOld, InvalidPart, InvalidRow, InvalidRun, InvalidSpot, NoFile, NoPlace, OutOfRange, Overlap,
    TooLong, TooMany, Unbounded,
)
from anchoredits.exchanges import cheapest, cost_of
from anchoredits.folders import Folder
from anchoredits.programs import Program
from anchoredits.texts import write_literal, write_program

from samples import LETTERS, NO_LETTERS, NO_STRINGS, begins_at, raised, random_programs
from test_folders import redone_of, state_of
from test_texts import LITERAL, LONG, PROGRAM, NOTHING, of_letters, spoiled, word

MOST = 10 ** 30

# The forms of all rows, but for what is told of the words and numbers in them.
NAME = of_letters("abcdefghijklmnopqrstuvwxyz").then(of_letters("abcdefghijklmnopqrstuvwxyz").any_times())
DIGITS = word("0").or_else(of_letters("123456789").then(of_letters("0123456789").any_times()))


def row_of(first, *parts):
    told = word(first)
    for part in parts:
        told = told.then(word(" ")).then(part)
    return told


ROWS = NOTHING
for row in (row_of("write", NAME, LITERAL), row_of("remove", NAME), row_of("apply", NAME, PROGRAM), row_of("undo"),
            row_of("undo", DIGITS), row_of("redo"), row_of("redo", DIGITS), row_of("files"), row_of("show", NAME),
            row_of("run", LITERAL, word("|"), PROGRAM), row_of("places", LITERAL, word("|"), LITERAL),
            row_of("parted", PROGRAM, word("|"), PROGRAM), row_of("windows", LITERAL, DIGITS, DIGITS),
            row_of("cost", LITERAL, word("|"), LITERAL), row_of("long", LONG, word("|"), PROGRAM),
            row_of("count", LONG, word("|"), LITERAL)):
    ROWS = ROWS.or_else(row)

# Rows of each form, with and without what stands in brackets.
RIGHT = [
    'write a "x"', 'write abcdefgh ""', "remove a", 'apply a once "x" "y"', "apply a ", "apply a together", "undo", "undo 0",
    "undo 12", "redo", "redo 0", f"redo {MOST}", "files", "show a", 'run "abc" | once "a" "b"', 'run "" | ',
    'run "a | b" | together ; perhaps "q" "|"', 'places "aa" | "a"', 'parted once "a" "b" | first "a" "b"', "parted  | ",
    'parted  | once "a" "b"', 'parted together | together "a" " | "', f'windows "abc" 1 {MOST}', 'windows "" 0 0',
    'cost "aaaaaaaaaaaaaaaaaaaa" | ""', 'cost "\\n" | "\\"\\\\"', f'long "a"*{MOST} + "b"*1 | every "a" ""', "long  | ",
    'long  | together', 'count "ab"*3 | "b"', 'count  | "b"', 'count "a"*0 | ""',
]


class DeskTest(unittest.TestCase):
    def desk(self):
        """A desk with two files, three changes and one that can be redone."""
        desk = Desk()
        for row in ('write b "bcd"', 'write a "abc"', 'write q ""', "remove q", "undo"):
            self.assertEqual(desk.say(row), "ok")
        return desk

    def assert_raised(self, error, desk, row, **fields):
        """That a row raises an error, and nothing is done; behind try, too."""
        for told in (row, "try " + row):
            before, redone = state_of(desk.folder), redone_of(desk.folder)
            caught = raised(self, error, desk.say, told)
            self.assertEqual(vars(caught), fields)
            self.assertEqual([state_of(desk.folder), redone_of(desk.folder)], [before, redone])

    def assert_no_row(self, desk, value):
        before, redone = state_of(desk.folder), redone_of(desk.folder)
        self.assertIs(raised(self, InvalidRow, desk.say, value).row, value)
        if isinstance(value, str):
            tried = "try " + value
            self.assertIs(raised(self, InvalidRow, desk.say, tried).row, tried)
        self.assertEqual([state_of(desk.folder), redone_of(desk.folder)], [before, redone])

    def assert_says(self, desk, row, answer):
        """That a row answers; first behind try, with the folder as before."""
        before, redone = state_of(desk.folder), redone_of(desk.folder)
        self.assertEqual(desk.say("try " + row), answer)
        self.assertEqual([state_of(desk.folder), redone_of(desk.folder)], [before, redone])
        told = desk.say(row)
        self.assertEqual(told, answer)
        self.assertIs(type(told), str)


class AnswersTest(DeskTest):
    def test_folder(self):
        desk = Desk()
        self.assertIs(type(desk.folder), Folder)
        self.assertEqual([desk.folder.files, desk.folder.moment], [{}, 0])
        self.assertIs(desk.folder, desk.folder)
        desk.folder.write("a", "x")
        self.assertEqual(desk.say("show a"), '"x"')
        self.assertEqual(Desk().folder.files, {})
        self.assertEqual(desk.say(row="files"), "a")

    def test_changes(self):
        desk = self.desk()
        self.assert_says(desk, "redo", "ok")
        self.assert_says(desk, 'write a "x\\ny"', "ok")
        self.assert_says(desk, 'apply a once "x\\n" "\\\\" ; once "y" ""', "ok")
        self.assert_says(desk, "apply b ", "ok")
        self.assert_says(desk, "remove b", "ok")
        self.assertEqual([desk.folder.files, desk.folder.moment], [{"a": "\\"}, 8])
        self.assert_says(desk, "undo", "ok")
        self.assert_says(desk, "undo 2", "ok")
        self.assert_says(desk, "undo 0", "ok")
        self.assertEqual([desk.folder.files, desk.folder.undone], [{"a": "x\ny", "b": "bcd"}, 3])
        self.assert_says(desk, "redo 2", "ok")
        self.assert_says(desk, "redo 0", "ok")
        self.assert_says(desk, "redo", "ok")
        self.assertEqual([desk.folder.files, desk.folder.undone], [{"a": "\\"}, 0])
        self.assert_says(desk, 'write abcdefgh ""', "ok")
        self.assertEqual(desk.folder.files, {"a": "\\", "abcdefgh": ""})

    def test_files_and_show(self):
        desk = Desk()
        self.assert_says(desk, "files", "-")
        desk.say('write b "\\"\\\\\\n"')
        desk.say('write abc ""')
        self.assert_says(desk, "files", "abc b")
        self.assert_says(desk, "show b", '"\\"\\\\\\n"')
        self.assert_says(desk, "show abc", '""')

    def test_run_and_places(self):
        desk = Desk()
        self.assert_says(desk, 'run "one two" | once "two" "2" ; first "o" "O"', '"One 2"')
        self.assert_says(desk, 'run "a" | once "a" ""', '""')
        self.assert_says(desk, 'run "a\\n" | ', '"a\\n"')
        self.assert_says(desk, 'run "|" | once "|" " | "', '" | "')
        self.assert_says(desk, 'run "aba" | every "a" "b"', '"bbb"')
        self.assert_says(desk, 'places "aaa" | "aa"', "0 1")
        self.assert_says(desk, 'places "aaa" | "b"', "-")
        self.assert_says(desk, 'places "" | "b"', "-")
        self.assert_says(desk, f'places "{"ab" * 60}" | "{"ab" * 59}"', "0 2")

    def test_parted(self):
        desk = Desk()
        self.assert_says(desk, 'parted once "ab" "c" | perhaps "ab" "c"', '""')
        self.assert_says(desk, 'parted once "ab" "c" | first "ab" "c"', '"abab"')
        self.assert_says(desk, 'parted once "\\n" "c" | once "\\n" ""', '"\\n"')
        self.assert_says(desk, "parted  | together", "-")
        self.assert_says(desk, "parted  | ", "-")
        self.assert_says(desk, "parted together | ", "-")
        chance = random.Random(111)
        programs = random_programs(chance, "ab|; ", 40, [Once, Perhaps, AtOnce])
        for one, other in zip(programs[:20], programs[20:]):
            text = parted(one, other)
            self.assertEqual(desk.say(f"parted {write_program(one)} | {write_program(other)}"),
                             "-" if text is None else write_literal(text))

    def test_windows_and_cost(self):
        desk = Desk()
        self.assert_says(desk, 'windows "abcabd" 4 5', "2 5\n4 6")
        self.assert_says(desk, 'windows "abc" 0 3', "0 3")
        self.assert_says(desk, 'windows "" 0 0', "-")
        self.assert_says(desk, 'cost "abcabd" | "abcaxd"', "4")
        self.assert_says(desk, 'cost "" | ""', "0")
        self.assert_says(desk, 'cost "a" | ""', "1")
        self.assert_says(desk, 'cost "" | "a"', "-")
        self.assert_says(desk, f'cost "{"a" * 20}" | "{"b" * 20}"', "40")
        chance = random.Random(112)
        for _ in range(50):
            one, other = ["".join(chance.choice('ab"') for _ in range(chance.randint(1, 8))) for _ in range(2)]
            self.assertEqual(desk.say(f"cost {write_literal(one)} | {write_literal(other)}"), str(cost_of(cheapest(one, other))))
            first = chance.randint(0, len(one))
            self.assertEqual(desk.say(f"windows {write_literal(one)} {first} {len(one)}"),
                             "\n".join(f"{begin} {end}" for begin, end in windows(one, first, len(one))) or "-")
            self.assertEqual(desk.say(f'places {write_literal(one)} | "a"'), " ".join(map(str, begins_at(one, "a"))) or "-")

    def test_long_and_count(self):
        desk = Desk()
        self.assert_says(desk, f'long "ab"*{MOST} + "c"*1 + "ba"*{MOST} | once "cb" "b"', str(4 * MOST))
        self.assert_says(desk, f'long "ab"*{MOST} | every "a" ""', str(MOST))
        self.assert_says(desk, 'long "ab"*1 | once "ab" ""', "0")
        self.assert_says(desk, "long  | ", "0")
        self.assert_says(desk, 'long "|"*2 | ', "2")
        self.assert_says(desk, f'count "ab"*{MOST} + "c"*1 + "ba"*{MOST} | "ba"', str(2 * MOST - 1))
        self.assert_says(desk, 'count  | "a"', "0")
        self.assert_says(desk, 'count " | "*3 | "|"', "3")

    def test_examples_of_longs(self):
        desk = Desk()
        text = f'"ab"*{MOST} + "c"*1 + "ba"*{MOST}'
        self.assertEqual([desk.say(f"long {text} | "), desk.say(f'count {text} | "bc"')], [str(4 * MOST + 1), "1"])
        self.assert_raised(NoPlace, desk, f'long {text} | once "ba" ""', index=0, number=2 * MOST - 1)


class ErrorsTest(DeskTest):
    def test_errors_of_the_folder(self):
        desk = self.desk()
        self.assert_raised(NoFile, desk, "remove z", name="z")
        self.assert_raised(NoFile, desk, 'apply abcdefgh once "a" ""', name="abcdefgh")
        self.assert_raised(NoFile, desk, "show z", name="z")
        self.assert_raised(FileNotRight, desk, 'apply a once "a" "" ; once "a" ""', name="a", index=1)
        self.assert_raised(OutOfRange, desk, "undo 4", value=4)
        self.assert_raised(OutOfRange, desk, f"undo {MOST}", value=MOST)
        self.assert_raised(OutOfRange, desk, "redo 2", value=2)
        for name in "defgh":
            desk.say(f'write {name} ""')
        self.assertEqual(len(desk.folder.files), 8)
        self.assert_raised(TooMany, desk, 'write i ""', limit=8)
        self.assert_raised(OutOfRange, desk, "redo", value=1)
        self.assert_raised(OutOfRange, Desk(), "undo", value=1)

    def test_errors_of_what_is_called(self):
        desk = Desk()
        self.assert_raised(NoPlace, desk, 'run "aa" | perhaps "b" "" ; once "a" ""', index=1, number=2)
        self.assert_raised(Overlap, desk, 'run "abc" | together "ab" "" "bc" ""', index=0)
        self.assert_raised(InvalidSpot, desk, 'windows "abc" 4 0', value=4)
        self.assert_raised(InvalidSpot, desk, 'windows "abc" 2 1', value=1)
        self.assert_raised(InvalidSpot, desk, f'windows "abc" 2 {MOST}', value=MOST)
        self.assert_raised(Unbounded, desk, 'parted once "aaaaaaaaa" "" ; every "a" "" | every "a" ""', index=1)
        self.assert_raised(TooLong, desk, 'parted  | once "aaaaaaaaa" ""', limit=8)
        self.assert_raised(TooLong, desk, 'parted once "a" "aaaaaaaaaaaaa" | every "a" ""', limit=12)
        self.assert_raised(Unbounded, desk, 'long "a"*1 | every "a" "a" ; every "a" "a"', index=1)
        self.assert_raised(InvalidOld, desk, 'count "a"*1 | ""', value="")
        self.assert_raised(InvalidOld, desk, f'count "a"*1 | "{"a" * 41}"', value="a" * 41)

    def test_errors_of_constructors_first_and_from_left_to_right(self):
        desk = Desk()
        long = "a" * 41
        self.assert_raised(InvalidOld, desk, 'apply z once "" ""', value="")
        self.assert_raised(TooMany, desk, "apply z " + " ; ".join(["together"] * 5), limit=4)
        self.assert_raised(InvalidNew, desk, f'run "x" | once "a" "{long}" ; once "" ""', value=long)
        self.assert_raised(InvalidPart, desk, 'parted together "a" "" "a" "" | once "" ""', index=1)
        self.assert_raised(InvalidOld, desk, 'parted every "a" "" | once "" ""', value="")
        self.assert_raised(InvalidRun, desk, 'long "a"*0 | once "" ""', index=0)
        self.assert_raised(InvalidOld, desk, 'long "a"*1 | once "" "" ; every "a" "" ; every "a" ""', value="")
        self.assert_raised(InvalidRun, desk, f'count "a"*1 + "a"*{MOST + 1} | ""', index=1)
        self.assert_raised(InvalidRun, desk, f'count "a"*{"9" * 31} | ""', index=0)
        self.assert_raised(TooMany, desk, "count " + " + ".join(['"a"*1'] * 21) + ' | ""', limit=20)
        self.assert_raised(TooMany, desk, "long " + " + ".join(['"a"*1'] * 21) + " | " + " ; ".join(["together"] * 5), limit=20)


class RowsTest(DeskTest):
    def test_right_rows(self):
        for row in RIGHT:
            for told in (row, "try " + row):
                try:
                    self.desk().say(told)
                except InvalidRow:
                    self.fail(told)
                except Exception as error:
                    self.assertEqual(type(error).__module__, "anchoredits.errors")
            self.assertTrue(ROWS.longest(row)[1])

    def test_no_rows(self):
        desk = self.desk()
        for value in NO_STRINGS + [
                "", " ", "x", "write", "try", "try ", "try try files", "try try try files", " files", "files ", "files a", "file",
                "Files", "files\n", "try  files", "tryfiles", "try\tfiles", "undo ", "undo 1 ", "undo  1", "undo 1 1", "undo -1",
                "undo 01", "undo +1", "undo x", "undo 1.", "undo \u0661", "redo ", "remove", "remove ", "remove  a", "remove a b",
                "remove A", "remove a1", "show", "show ", "show a ", "write a", "write a ", "write a x", "write  \"x\"",
                "write \"x\"", 'write a "x" ', 'write a  "x"', 'write a "x" "y"', 'write a "x', 'write a "\\x"', "apply a",
                "apply  ", 'apply a once "a"', 'apply a once "a" "b" ', 'apply a once "a" "b" ;', 'apply a  ', "apply a | ",
                'run "a"', 'run "a" |', 'run "a"| ', 'run "a" |  ', 'run | ', 'run a | ', 'run "a" once "a" "b"', 'run  | ',
                'run "a" |once "a" "b"', 'run "a"  | once "a" "b"', 'places "a" "b"', 'places "a" |"b"', 'places "a" | ',
                'places "a" | "b" ', 'parted | ', "parted |", "parted  |", "parted", "parted ", "parted  |  ", "parted  | x",
                'parted once "a" "b"', 'parted once "a" "b" |', 'parted once "a" "b"| ', 'parted once "a" "b"  | ',
                'parted  | once "a" "b" | ', 'windows "a"', 'windows "a" 0', 'windows "a" 0 0 0', 'windows "a" 0  0', 'windows a 0 0',
                'windows "a" 0 -1', 'windows "a" 00 0', 'windows "a" 0 0 ', 'cost "a" "b"', 'cost "a" |', 'cost "a" | b', "long | ",
                "long  |", "long", 'long "a" | ', 'long "a"*01 | ', 'long "a"*1 |', 'long "a"*1 +  | ', 'long "a"*1 | "a"',
                'count  | ', 'count "a"*1 "a"', 'count "a"*1 | a', 'count "a"*1 |  "a"', "try 1", "-", "ok", "write a \"x\"\n"]:
            self.assert_no_row(desk, value)

    def test_bounds(self):
        desk = Desk()
        for row in ('write abcdefghi "x"', "remove abcdefghi", "show abcdefghi", "apply abcdefghi ", f"undo {MOST + 1}",
                    f"redo {MOST + 1}", f'windows "a" {MOST + 1} 0', f'windows "a" 0 {MOST + 1}', "undo " + "9" * 32,
                    f'cost "{"a" * 21}" | ""', f'cost "" | "{"a" * 21}"', 'places "a" | ""', 'places "" | ""',
                    'long "a"*' + "1" * 32 + " | ", 'count "a"*' + "1" * 32 + ' | "a"', f"undo 0{MOST}", f"undo {MOST}0"):
            self.assert_no_row(desk, row)
        self.assert_raised(NoFile, desk, "remove abcdefgh", name="abcdefgh")
        self.assert_raised(OutOfRange, desk, f"undo {MOST}", value=MOST)
        self.assert_raised(InvalidSpot, desk, f'windows "a" {MOST} {MOST}', value=MOST)
        self.assert_says(desk, f'cost "{"a" * 20}" | "{"a" * 20}"', "0")
        self.assert_says(desk, f'cost "{chr(92) * 40}" | ""', "20")
        self.assert_says(desk, f'places "{"a" * 500}" | "{"a" * 499}"', "0 1")
        self.assert_raised(InvalidRun, desk, 'count "a"*' + "1" * 31 + ' | "a"', index=0)

    def test_ahead_of_all_other_errors(self):
        desk = Desk()
        for row in ('apply z once "" "" x', 'run "a" | once "" "b" ; ', 'parted once "" "" | once "a"', 'count "a"*0 | ""x',
                    'long "a"*0 | once "" ""|', "remove z ", "undo 5 ", 'windows "" 5 5 5', 'cost "a" | "b" ; ', "show z\n"):
            self.assert_no_row(desk, row)

    def test_letters_that_are_none(self):
        desk = Desk()
        for character in NO_LETTERS:
            for row in (f'write a "{character}"', f'run "a{character}" | ', f"files{character}", f"{character}files",
                        f"show {character}", f'count  | "{character}"', f"undo {character}", f'write{character}a "x"'):
                self.assert_no_row(desk, row)

    def test_spoiled_rows(self):
        chance = random.Random(113)
        right, wrong = 0, 0
        for row in RIGHT:
            for told in spoiled(chance, row, LETTERS + "\t% |;+*\"\"\\019az" * 8):
                desk = self.desk()
                if self.is_row(told):
                    right += 1
                    try:
                        desk.say(told)
                    except InvalidRow:
                        self.fail(told)
                    except Exception as error:
                        self.assertEqual(type(error).__module__, "anchoredits.errors")
                else:
                    wrong += 1
                    self.assertIs(raised(self, InvalidRow, desk.say, told).row, told)
        self.assertGreater(min(right, wrong), 400)

    def is_row(self, text):
        """Whether a text is of the form of a row, with what is told of NAME, A, B and N."""
        if not ROWS.longest(text)[1] or text == "":
            return False
        first, _, rest = text.partition(" ")
        if first in ("write", "remove", "apply", "show"):
            return len(rest.partition(" ")[0]) <= 8
        if first in ("undo", "redo"):
            return rest == "" or int(rest) <= MOST
        if first == "windows":
            return all(int(number) <= MOST for number in rest.split(" ")[-2:])
        if first == "places":
            return not rest.endswith(' | ""')
        if first == "cost":
            return all(len(part) <= 20 for part in self.literals(rest))
        return True

    def literals(self, rest):
        """The texts that the literals of a cost row write."""
        told, part, place = [], None, 0
        while place < len(rest):
            if part is None:
                part = "" if rest[place] == '"' else None
            elif rest[place] == '"':
                told.append(part)
                part = None
            else:
                place += rest[place] == "\\"
                part += rest[place]
            place += 1
        return told


class TryTest(DeskTest):
    def test_as_before(self):
        desk = self.desk()
        before, redone = state_of(desk.folder), redone_of(desk.folder)
        self.assertEqual(before[1:4], (3, 1, 0))
        for row, answer in (('try write a "x"', "ok"), ("try remove a", "ok"), ("try undo 3", "ok"), ("try redo", "ok"),
                            ('try apply a once "a" ""', "ok"), ("try show a", '"abc"'), ("try files", "a b q")):
            self.assertEqual(desk.say(row), answer)
            self.assertEqual([state_of(desk.folder), redone_of(desk.folder)], [before, redone])

    def test_errors(self):
        desk = self.desk()
        self.assert_raised(NoFile, desk, "remove z", name="z")
        told = raised(self, InvalidRow, desk.say, 'try write a "x" ')
        self.assertEqual(told.row, 'try write a "x" ')
        told = raised(self, InvalidRow, desk.say, "try try show z")
        self.assertEqual(told.row, "try try show z")


if __name__ == "__main__":
    unittest.main()
