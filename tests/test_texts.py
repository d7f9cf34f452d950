import random
import unittest

from anchoredits.edits import AtOnce, Every, First, Once, Perhaps
from anchoredits.errors import InvalidNew, InvalidOld, InvalidPart, InvalidRun, TooMany, Unreadable
from anchoredits.longs import LongText
from anchoredits.programs import Program
from anchoredits.texts import read_literal, read_long, read_program, write_literal, write_program

from samples import LETTERS, NO_LETTERS, NO_STRINGS, raised, random_programs

KINDS = [Once, First, Perhaps, Every, AtOnce]


class Form:
    """A form of texts, as states of a machine that may be in several at once.

    steps has tuples (state, letters, state), the letters "" where nothing is read. Each form has one first and one last
    state. From each state the last one can be reached: so what leads anywhere is the beginning of some text of the form.
    """

    def __init__(self, number, steps, first, last):
        self.number, self.steps, self.first, self.last = number, steps, first, last

    def moved(self, by):
        return [(state + by, letters, target + by) for state, letters, target in self.steps]

    def then(self, other):
        steps = self.steps + other.moved(self.number) + [(self.last, "", other.first + self.number)]
        return Form(self.number + other.number, steps, self.first, other.last + self.number)

    def or_else(self, other):
        steps = self.steps + other.moved(self.number)
        first, last = self.number + other.number, self.number + other.number + 1
        steps += [(first, "", self.first), (first, "", other.first + self.number),
                  (self.last, "", last), (other.last + self.number, "", last)]
        return Form(last + 1, steps, first, last)

    def any_times(self):
        """This form none, one or several times."""
        first = self.number
        return Form(first + 1, self.steps + [(first, "", self.first), (self.last, "", first)], first, first)

    def longest(self, text):
        """(length, is_whole): the longest beginning of the text that some text of this form begins with, and whether
        the text is of the form."""
        behind = {}
        for state, letters, target in self.steps:
            behind.setdefault(state, []).append((letters, target))
        states = self.closed({self.first}, behind)
        for length, letter in enumerate(text):
            states = self.closed({target for state in states for letters, target in behind.get(state, [])
                                  if letters and letter in letters}, behind)
            if not states:
                return length, False
        return len(text), self.last in states

    def closed(self, states, behind):
        waiting = list(states)
        while waiting:
            for letters, target in behind.get(waiting.pop(), []):
                if not letters and target not in states:
                    states.add(target)
                    waiting.append(target)
        return states


def of_letters(letters):
    return Form(2, [(0, letters, 1)], 0, 1)


def word(text):
    told = Form(1, [], 0, 0)
    for letter in text:
        told = told.then(of_letters(letter))
    return told


NOTHING = word("")
PLAIN = "".join(letter for letter in LETTERS if letter not in '\\"\n')
LITERAL = word('"').then(of_letters(PLAIN).or_else(word("\\").then(of_letters('\\"n'))).any_times()).then(word('"'))
PAIR = word(" ").then(LITERAL).then(word(" ")).then(LITERAL)
EDIT = word("together").then(PAIR.any_times())
for name in ("once", "first", "perhaps", "every"):
    EDIT = EDIT.or_else(word(name).then(PAIR))
PROGRAM = NOTHING.or_else(EDIT.then(word(" ; ").then(EDIT).any_times()))
TIMES = of_letters("123456789")
for _ in range(30):
    TIMES = of_letters("123456789").or_else(TIMES.then(of_letters("0123456789")))
TIMES = TIMES.or_else(word("0"))
RUN = LITERAL.then(word("*")).then(TIMES)
LONG = NOTHING.or_else(RUN.then(word(" + ").then(RUN).any_times()))


def spoiled(chance, text, letters):
    """Texts with one letter left out, doubled, exchanged, put in or replaced, and cut off, at each place."""
    for place in range(len(text) + 1):
        yield text[:place]
        yield text[:place] + chance.choice(letters) + text[place:]
        yield text[:place] + chance.choice(letters) + text[place + 1:]
        yield text[:place] + text[place + 1:]
        yield text[:place] + text[place:place + 1] + text[place:]
        yield text[:place] + text[place + 1:place + 2] + text[place:place + 1] + text[place + 2:]


class ReadTest(unittest.TestCase):
    def assert_unreadable(self, read, form, text):
        """That a text has the index of the form, if it is not of it; whether it is of it."""
        length, is_whole = form.longest(text)
        if not is_whole:
            told = raised(self, Unreadable, read, text).index
            self.assertEqual(told, length, text)
            self.assertIs(type(told), int)
        return is_whole

    def assert_no_strings(self, read):
        for value in NO_STRINGS:
            self.assertEqual(raised(self, Unreadable, read, value).index, 0)


class LiteralTest(ReadTest):
    def test_written(self):
        for text, told in (("", '""'), ("abc", '"abc"'), ("\n", '"\\n"'), ("\\", '"\\\\"'), ('"', '"\\""'), ("\\n", '"\\\\n"'),
                           ('\\"\n', '"\\\\\\"\\n"'), ("a b;c|d", '"a b;c|d"'), ("''", "\"''\"")):
            self.assertEqual(write_literal(text), told)
            self.assertEqual(read_literal(told), text)
        self.assertEqual(write_literal(text="a"), '"a"')
        self.assertEqual(read_literal(text='"a"'), "a")

    def test_all_letters(self):
        for letter in LETTERS:
            for text in (letter, letter * 3, "a" + letter, letter + "n", letter + '"', letter + "\\"):
                self.assertEqual(read_literal(write_literal(text)), text)
                self.assertTrue(LITERAL.longest(write_literal(text))[1])
        self.assertEqual(read_literal(write_literal(LETTERS)), LETTERS)
        self.assertEqual(read_literal(write_literal(LETTERS * 50)), LETTERS * 50)

    def test_unreadable(self):
        for text, index in (("", 0), ("a", 0), ('"', 1), ('"a', 2), ('"a"b', 3), ('"a""', 3), ('""x', 2), ('"\\', 2), ('"\\a"', 2),
                            ('"\n"', 1), ('"\\\n"', 2), ('"a\t"', 2), (' "a"', 0), ('"a" ', 3), ('"\\"', 3), ("'a'", 0)):
            self.assertEqual(raised(self, Unreadable, read_literal, text).index, index)
        for character in NO_LETTERS:
            self.assertEqual(raised(self, Unreadable, read_literal, f'"ab{character}c"').index, 3)
            self.assertEqual(raised(self, Unreadable, read_literal, f'"ab"{character}').index, 4)
            self.assertEqual(raised(self, Unreadable, read_literal, character).index, 0)
        self.assert_no_strings(read_literal)

    def test_spoiled_texts(self):
        chance = random.Random(101)
        for text in ("", "ab", 'a"b', "\\", "\n\\n", '"', "a b ; c"):
            for wrong in spoiled(chance, write_literal(text), LETTERS + "\t%\\\\\"\"n"):
                if self.assert_unreadable(read_literal, LITERAL, wrong):
                    self.assertEqual(write_literal(read_literal(wrong)), wrong)


class ProgramTest(ReadTest):
    def test_written(self):
        for program, told in (
                (Program(), ""), (Program(AtOnce()), "together"), (Program(Once("a", "")), 'once "a" ""'),
                (Program(First("a", "b"), Perhaps("c", "\n")), 'first "a" "b" ; perhaps "c" "\\n"'),
                (Program(Every(" ; ", '"')), 'every " ; " "\\""'),
                (Program(AtOnce(("a", "b"), ("c", "")), AtOnce(), AtOnce(("d", "e"))),
                 'together "a" "b" "c" "" ; together ; together "d" "e"')):
            self.assertEqual(write_program(program), told)
            self.assertEqual(read_program(told), program)
        self.assertEqual(write_program(program=Program()), "")
        self.assertEqual(read_program(text="together"), Program(AtOnce()))

    def test_all_programs(self):
        chance = random.Random(102)
        for program in random_programs(chance, 'ab\\"\n; ', 400, KINDS):
            text = write_program(program)
            self.assertTrue(PROGRAM.longest(text)[1])
            self.assertEqual(read_program(text), program)
            self.assertEqual([type(edit) for edit in read_program(text).edits], [type(edit) for edit in program.edits])

    def test_unreadable(self):
        for text, index in (
                (" ", 0), ("x", 0), ("o", 1), ("onc", 3), ("onces", 4), ("once", 4), ("once ", 5), ("once a", 5), ('once "a"', 8),
                ('once "a" ', 9), ('once "a" b', 9), ('once "a" "b" ', 13), ('once "a" "b" ;', 14), ('once "a" "b" ; ', 15),
                ('once "a" "b";', 12), ('once "a" "b"  ;', 13), ('once "a" "b" ; x', 15), ('once "a" "b" ; ; ', 15),
                ('once "a" "b" "c"', 13), ("Once", 0), ("together ", 9), ("together  ", 9), ('together "a"', 12),
                ('together "a" ', 13), ('together "a" ;', 13), ('together "a" "b" ', 17), ('together "a" "b" x', 17),
                ('together "a" "b" ;', 18), ('together "a" "b" ;x', 18), ("together;", 8), ("together ;", 10), ("together ; ", 11),
                ('once  "a"', 5), ('once\t"a"', 4), ("to", 2), ("once; ", 4), ('every "\\', 8), ('first "a" "b\n"', 12)):
            self.assertEqual(raised(self, Unreadable, read_program, text).index, index, text)
            self.assertEqual(PROGRAM.longest(text), (index, False))
        self.assert_no_strings(read_program)

    def test_spoiled_texts(self):
        chance = random.Random(103)
        programs = random_programs(chance, 'a"\\\n', 25, KINDS)
        whole = 0
        for text in [write_program(program) for program in programs] + ["", "together", "together ; together"]:
            for wrong in spoiled(chance, text, LETTERS + "\t% ;\"\\" * 10):
                if self.assert_unreadable(read_program, PROGRAM, wrong):
                    whole += 1
                    self.assert_read_or_refused(wrong)
        self.assertGreater(whole, 100)

    def assert_read_or_refused(self, text):
        """That a text of the form is read, or that a constructor raises an error."""
        try:
            self.assertEqual(write_program(read_program(text)), text)
        except (InvalidOld, InvalidNew, InvalidPart, TooMany):
            pass

    def test_errors_of_constructors_from_left_to_right(self):
        long = '"' + "a" * 41 + '"'
        for text, error, field, told in (
                ('once "" "b"', InvalidOld, "value", ""), (f"first {long} {long}", InvalidOld, "value", "a" * 41),
                (f'every "a" {long}', InvalidNew, "value", "a" * 41), (f'perhaps "" {long}', InvalidOld, "value", ""),
                ('together "a" "b" "a" "c"', InvalidPart, "index", 1), ('together "" ""', InvalidPart, "index", 0),
                ('together "a" "" "b" "" "c" "" "d" ""', TooMany, "limit", 3),
                ('together "a" "" "b" "" "c" "" "d" "" "d" ""', InvalidPart, "index", 4),
                (" ; ".join(["together"] * 5), TooMany, "limit", 4),
                # Those of an edit come ahead of those of the Program, and of those of an edit behind it.
                (" ; ".join(["together"] * 5 + ['once "" ""']), InvalidOld, "value", ""),
                (f'once "a" {long} ; once "" ""', InvalidNew, "value", "a" * 41),
                ('once "" "" ; together "" ""', InvalidOld, "value", ""), ('together "" "" ; once "" ""', InvalidPart, "index", 0)):
            self.assertEqual(getattr(raised(self, error, read_program, text), field), told)
        # The form comes ahead of all of them.
        self.assertEqual(raised(self, Unreadable, read_program, 'once "" "" ; x').index, 13)
        self.assertEqual(len(read_program(" ; ".join(["together"] * 4))), 4)
        self.assertEqual(read_program('once "' + "a" * 40 + '" ""').olds, ("a" * 40,))


class LongTest(ReadTest):
    def test_read(self):
        for text, told in (
                ("", LongText()), ('"ab"*3', LongText(("ab", 3))), ('"a"*1 + "b"*10', LongText(("a", 1), ("b", 10))),
                ('"\\n\\""*' + str(10 ** 30), LongText(('\n"', 10 ** 30))), ('" + "*2', LongText((" + ", 2)))):
            self.assertTrue(read_long(text) == told)
            self.assertEqual(read_long(text=text).length, told.length)
        self.assertEqual(read_long(" + ".join(['"ab"*7'] * 20)).length, 280)

    def test_unreadable(self):
        for text, index in (
                (" ", 0), ("a", 0), ('"a"', 3), ('"a"*', 4), ('"a"*x', 4), ('"a"*01', 5), ('"a"*00', 5), ('"a"*-1', 4),
                ('"a"*1 ', 6), ('"a"*1 +', 7), ('"a"*1 + ', 8), ('"a"*1 +"', 7), ('"a"*1+', 5), ('"a"*1 + 1', 8), ('"a" *1', 3),
                ('"a"*1 x', 6), ('"a"*1.0', 5), ('"a"*' + "1" * 32, 35), ('"a"*' + "1" * 31 + "x", 35), ('"a"*0 + "b"*', 12),
                ('"a*1', 4), ('"a"*\u0663', 4), ('"a"*1\u0663', 5), ('"a"*1_0', 5)):
            self.assertEqual(raised(self, Unreadable, read_long, text).index, index, text)
            self.assertEqual(LONG.longest(text), (index, False))
        self.assert_no_strings(read_long)

    def test_times(self):
        for times in ("0", "9" * 31, str(10 ** 30 + 1)):
            self.assertEqual(raised(self, InvalidRun, read_long, '"a"*1 + "b"*' + times).index, 1)
        self.assertEqual(read_long('"a"*' + "9" * 30).length, 10 ** 30 - 1)
        self.assertEqual(read_long('"a"*' + str(10 ** 30)).length, 10 ** 30)

    def test_errors_of_constructors(self):
        for text, index in (('""*1', 0), ('"a"*1 + ""*1 + "a"*0', 1), ('"a"*0', 0), (f'"{"a" * 41}"*1', 0), ('"a"*1 + "a"*0', 1)):
            self.assertEqual(raised(self, InvalidRun, read_long, text).index, index)
        self.assertEqual(raised(self, TooMany, read_long, " + ".join(['"a"*1'] * 21)).limit, 20)
        self.assertEqual(raised(self, InvalidRun, read_long, " + ".join(['"a"*1'] * 25 + ['"a"*0'])).index, 25)
        self.assertEqual(raised(self, Unreadable, read_long, '""*0 + ').index, 7)

    def test_spoiled_texts(self):
        chance = random.Random(104)
        whole = 0
        for text in ("", '"ab"*3', '"a"*10 + "\\n"*205', '""*0 + "\\""*1 + " "*99', '"a"*' + "1" * 31, '"a"*' + "9" * 30):
            for wrong in [*spoiled(chance, text, LETTERS + "0123456789*+ \"\\\t" * 10), text + "1", text + " + " + text]:
                if self.assert_unreadable(read_long, LONG, wrong):
                    whole += 1
                    try:
                        read_long(wrong)
                    except InvalidRun:
                        pass
        self.assertGreater(whole, 50)


class FormTest(unittest.TestCase):
    """That the forms of this test tell what stands in the document."""

    def test_forms(self):
        for form, right, wrong in (
                (LITERAL, ['""', '"a"', '"\\n"'], ["", '"', "a", '"\\a"', '"\n"']),
                (PROGRAM, ["", "together", 'once "" ""', 'together "a" "b" ; once "a" "b"'], [" ", "once", 'once ""', "together ;"]),
                (LONG, ["", '"a"*0', '"a"*10 + ""*' + "9" * 31], ['"a"', '"a"*01', '"a"*' + "9" * 32])):
            for text in right:
                self.assertEqual(form.longest(text), (len(text), True))
            for text in wrong:
                self.assertFalse(form.longest(text)[1])


if __name__ == "__main__":
    unittest.main()
