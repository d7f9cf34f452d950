import os
import random
import unittest

from anchoredits.edits import AtOnce, First, Once, Perhaps
from anchoredits.errors import InvalidTable
from anchoredits.machines import Machine
from anchoredits.programs import Program
from anchoredits.sets import TextSet

from samples import LETTERS, NO_STRINGS, NO_TEXTS, naive_outcome, raised, random_programs, words_over
from test_sets import leads_to, random_table, without

KINDS = [Once, First, Perhaps, AtOnce]
NEVER = ("", ((None, ()),))
SAME = ("", (("", ((LETTERS, 0, "", True),)),))


def result_of(table, text):
    """What a machine makes of a text, as promise 22 tells it; None if the text is not right."""
    written, states = table
    state = 0
    for letter in text:
        moves = [move for move in states[state][1] if letter in move[0]]
        if not moves:
            return None
        _, state, put, copies = moves[0]
        written += put + letter * copies
    ending = states[state][0]
    return None if ending is None else written + ending


def random_machine(chance, letters):
    """A table of a machine over these letters, in general not least."""
    number = chance.randint(1, 4)

    def word():
        return "".join(chance.choice(letters) for _ in range(chance.randint(0, 2)))

    states = []
    for _ in range(number):
        rest = list(letters)
        chance.shuffle(rest)
        moves = []
        while rest:
            many = chance.randint(1, len(rest))
            if chance.random() < 0.85:
                moves.append(("".join(sorted(rest[:many])), chance.randrange(number), word(), chance.random() < 0.4))
            rest = rest[many:]
        states.append((word() if chance.random() < 0.5 else None, tuple(moves)))
    return (word(), tuple(states))


def beginning_with(word):
    """A table of the set of all texts that begin with a word."""
    states = [(False, ((letter, index + 1),)) for index, letter in enumerate(word)]
    return (*states, (True, ((LETTERS, len(word)),)))


class MachinesTest(unittest.TestCase):
    def assert_least(self, table):
        """Those conditions of promise 23 that the table alone shows."""
        first, states = table
        self.assertIs(type(table), tuple)
        self.assertIs(type(states), tuple)
        if table == NEVER:
            return
        numbers = {0: 0}
        for ending, moves in states:
            self.assertIs(type(moves), tuple)
            self.assertEqual(list(moves), sorted(moves))
            self.assertEqual(len({move[1:] for move in moves}), len(moves))
            for letters, target, text, copies in moves:
                self.assertEqual(list(letters), sorted(letters))
                self.assertIs(type(copies), bool)
                # What a letter writes ends with the letter itself just if copies is True.
                self.assertTrue(copies or text[-1:] not in letters or text == "")
                numbers.setdefault(target, len(numbers))
        self.assertEqual(list(numbers.items()), [(state, state) for state in range(len(states))])
        texts = [self.some_end(states, state) for state in range(len(states))]
        self.assertNotIn(None, texts)
        self.assertEqual(len(set(self.alike_states(states))), len(states))
        # From no state on anything is sure that is not written yet.
        for letters in self.first_letters(states):
            self.assertTrue("" in letters or len(letters) > 1)

    def some_end(self, states, first):
        """A shortest text with which a state is right, or None."""
        texts = {first: ""}
        met = [first]
        for state in met:
            if states[state][0] is not None:
                return texts[state]
            for letters, target, _, _ in states[state][1]:
                if target not in texts:
                    texts[target] = texts[state] + letters[0]
                    met.append(target)
        return None

    def first_letters(self, states):
        """For each state the first letters of what is written from it on, "" where nothing may be."""
        told = [set() if ending is None else {ending[:1]} for ending, _ in states]
        is_done = False
        while not is_done:
            before = [set(letters) for letters in told]
            for state, (_, moves) in enumerate(states):
                for letters, target, text, copies in moves:
                    if text:
                        told[state].add(text[0])
                    else:
                        told[state] |= set(letters) if copies else told[target]
            is_done = told == before
        return told

    def alike_states(self, states):
        """For each state a number, equal for states that do the same."""
        numbers = [0] * len(states)
        for _ in range(len(states) + 1):
            keys = []
            for ending, moves in states:
                rows = {letter: (numbers[target], text + letter * copies)
                        for letters, target, text, copies in moves for letter in letters}
                keys.append((ending, tuple(rows.get(letter) for letter in LETTERS)))
            numbers = [keys.index(key) for key in keys]
        return numbers


class ExamplesTest(MachinesTest):
    def test_examples(self):
        begun, states = Machine.of(Program(First("a", ""))).table
        self.assertEqual(
            [begun, states[0][0], states[0][1][1], states[1][0], len(states[1][1][0][0]), states[1][1][0][1:]],
            ["", None, ("a", 1, "", False), "", 95, (1, "", True)])
        machine = Machine.of(Program(Once("ab", "c")))
        self.assertEqual(
            [machine.run("xaby"), machine.run("abab"), machine.sure("xa"), machine.sure("xab"), machine.sure("abab")],
            ["xcy", None, "x", "xc", None])
        self.assertEqual(
            [machine.domain.least, machine.domain.count(3, "abc"),
             list(machine.into(TextSet("c", "ccc")).ordered("abc"))],
            ["ab", 6, ["ab", "abcc", "cabc", "ccab"]])
        self.assertEqual(
            [len(machine.table[1]), machine.table[1][1][1][-1],
             Machine.of(Program(Once("ab", "ab"))) == Machine.of(Program())],
            [4, ("b", 2, "c", False), False])

    def test_whole_tables(self):
        self.assertEqual(Machine.of(Program()).table, SAME)
        self.assertEqual(Machine.of(program=Program(AtOnce())).table, SAME)
        self.assertEqual(Machine.of(Program(Once("a", "a"), Once("b", "b"), Once("a", ""), Once("a", ""))).table, NEVER)
        self.assertEqual(Machine.of(Program(Once("ab", "c"))).table, ("", (
            (None, ((without("a"), 0, "", True), ("a", 1, "", False))),
            (None, ((without("a", "b"), 0, "a", True), ("a", 1, "", True), ("b", 2, "c", False))),
            ("", ((without("a"), 2, "", True), ("a", 3, "", True))),
            ("", ((without("a", "b"), 2, "", True), ("a", 3, "", True))))))
        self.assertEqual(Machine.of(Program(Perhaps("a", "b"))).table, ("", (
            ("", ((without("a"), 0, "", True), ("a", 1, "b", False))),
            ("", ((without("a"), 1, "", True),)))))

    def test_what_is_written_as_soon_as_it_is_sure(self):
        # The second edit is not right unless its old stands where the first one has put its new.
        machine = Machine.of(Program(Perhaps("y", ""), Once("a", "xy"), Once("yb", "yc")))
        self.assertEqual([machine.run("ab"), machine.run("ayb"), machine.run("aby"), machine.run("a")],
                         ["xyc", "xyc", "xyc", None])
        self.assertEqual([machine.sure("a"), machine.sure("ay"), machine.sure("ayy"), machine.sure("ac")],
                         ["xyc", "xyc", None, None])


class OfTest(MachinesTest):
    def test_beside_run_for_all_short_texts(self):
        words = words_over("ab\n", 4) + words_over("ab", 7)
        for program in random_programs(random.Random(11), "ab", 250, KINDS):
            machine = Machine.of(program)
            self.assert_least(machine.table)
            for word in words:
                self.assertEqual(machine.run(word), naive_outcome(program, word))

    def test_more_letters(self):
        words = words_over("abcz", 5)
        for program in random_programs(random.Random(12), "abc", 120, KINDS):
            machine = Machine.of(program)
            self.assert_least(machine.table)
            for word in words:
                self.assertEqual(machine.run(word), naive_outcome(program, word))

    def test_at_the_bounds(self):
        for program in (
                Program(Once("abcdefgh", "ijklmnopqrst")),
                Program(Once("ab", "xyz"), Once("cd", "uvw"), Once("ef", "rst"), Once("gh", "opq")),
                Program(AtOnce(("abab", "bab"), ("ba", "ab")), First("bb", "babaaab")),
                Program(*[AtOnce((a, a + a), (b, b)) for a, b in ("ab", "cd", "ef", "gh")])):
            machine = Machine.of(program)
            self.assert_least(machine.table)
            word = "".join(program.olds)
            for text in [word[:end] + word[begin:] for end in range(9) for begin in range(9)]:
                self.assertEqual(machine.run(text), naive_outcome(program, text))

    def test_programs_that_do_the_same(self):
        for one, other in (
                (Program(Once("a", "b")), Program(AtOnce(("a", "b")))),
                (Program(Once("a", "b"), Once("c", "d")), Program(AtOnce(("a", "b"), ("c", "d")))),
                (Program(Once("a", "b"), Perhaps("a", "")), Program(Once("a", "b"))),
                (Program(Perhaps("a", "a"), First("a", "x")), Program(Once("a", "x")))):
            self.assertIs(Machine.of(one) == Machine.of(other), True)
            self.assertEqual(Machine.of(one).table, Machine.of(other).table)

    def test_a_program_behind_another_one(self):
        programs = random_programs(random.Random(13), "ab", 150, KINDS)
        for one, other in zip(programs[::2], programs[1::2]):
            machine = Machine.of(one).then(Machine.of(other))
            self.assert_least(machine.table)
            both = one.edits + other.edits
            if len(both) <= 4 and sum(len(old) for old in one.olds + other.olds) <= 8:
                if sum(len(new) for new in one.news + other.news) <= 12:
                    self.assertEqual(machine, Machine.of(Program(*both)))


class OfTableTest(MachinesTest):
    def test_given_tables(self):
        # States that are alike, not reached, or without a right end.
        table = ("x", (
            (None, (("a", 1, "y", True), ("b", 2, "ya", False), ("c", 3, "z", False))),
            ("", (("d", 1, "d", False),)),
            ("", (("d", 2, "", True), ("c", 3, "", True))),
            (None, (("c", 3, "", True),)),
            ("zz", (("a", 0, "", False),)),
        ))
        # "ya" is sure ahead of the first letter; and "a" reads its own letter only by chance.
        told = ("xya", ((None, (("ab", 1, "", False),)), ("", (("d", 1, "", True),))))
        self.assertEqual(Machine.of_table(table).table, told)
        self.assertEqual(Machine.of_table(table=told).table, told)

    def test_texts_that_are_sure_early(self):
        # After "a" only "b" can follow, and writes what the ending writes too.
        table = ("", ((None, (("a", 1, "", False), ("c", 2, "", False))), (None, (("b", 2, "xy", False),)), ("z", ())))
        self.assertEqual(Machine.of_table(table).table, ("", (
            (None, (("a", 1, "xyz", False), ("c", 2, "z", False))), (None, (("b", 2, "", False),)), ("", ()))))
        table = ("", ((None, (("ab", 1, "x", True),)), ("y", ())))
        # Behind the letter itself something more is sure: so no letter is copied.
        self.assertEqual(Machine.of_table(table).table, (
            "x", ((None, (("a", 1, "ay", False), ("b", 1, "by", False))), ("", ()))))
        # The same of letters between which others stand.
        table = ("", ((None, (("ace", 1, "", True), ("bd", 2, "", True))), ("y", ()), ("z", ())))
        self.assertEqual(Machine.of_table(table).table, ("", (
            (None, tuple((letter, 1, letter + end, False) for letter, end in zip("abcde", "yzyzy"))), ("", ()))))
        # Two letters that write the same one: for one of them it is the letter itself.
        table = ("", (("", (("ab", 1, "a", False), ("c", 1, "", True))), ("", ())))
        self.assertEqual(Machine.of_table(table).table, (
            "", (("", (("ac", 1, "", True), ("b", 1, "a", False))), ("", ()))))
        # On a cycle.
        table = ("", ((None, (("a", 0, "ab", False), ("b", 1, "ab", False))), ("a", ())))
        self.assertEqual(Machine.of_table(table).table, (
            "aba", ((None, (("a", 0, "b", True), ("b", 1, "", False))), ("", ()))))

    def test_letters_that_no_text_has(self):
        table = ("", (("", ((LETTERS[:50], 1, "", True), (LETTERS[50:], 1, "", True))), ("", ((LETTERS, 0, "", True),))))
        self.assertEqual(Machine.of_table(table).table, SAME)
        table = ("", ((None, ((LETTERS, 0, "", True),)),))
        self.assertEqual(Machine.of_table(table).table, NEVER)
        self.assertEqual(Machine.of_table(("abc", table[1])).table, NEVER)

    def test_random_tables(self):
        chance = random.Random(14)
        words = words_over("ab", 9)
        for _ in range(250):
            table = random_machine(chance, "ab")
            machine = Machine.of_table(table)
            self.assert_least(machine.table)
            results = {word: result_of(table, word) for word in words}
            for word in words:
                self.assertEqual(machine.run(word), results[word])
            self.assertEqual(Machine.of_table(machine.table).table, machine.table)
            for word in words_over("ab", 2):
                told = [results[text] for text in words if text.startswith(word) and results[text] is not None]
                self.assertEqual(machine.sure(word), os.path.commonprefix(told) if told else None)

    def test_with_most_states(self):
        for number in (1, 199, 200):
            states = tuple(("" if state == number - 1 else None, (("a", state + 1, "", True),) * (state < number - 1))
                           for state in range(number))
            machine = Machine.of_table(("", states))
            self.assertEqual(machine.run("a" * (number - 1)), "a" * (number - 1))
            self.assertIsNone(machine.run("a" * number))
            self.assertEqual(machine.sure(""), "a" * (number - 1))
        table = ("", (("", ()),) * 201)
        self.assertIs(raised(self, InvalidTable, Machine.of_table, table).value, table)

    def test_no_table(self):
        good = (None, (("a", 0, "", True),))
        wrong_states = [
            None, True, 0, "", "ab", [], [None, ()], (), (None,), (None, (), ()), ((), ()), (1, ()), (True, ()),
            (["a"], ()), ("\t", ()), ("a%", ()), (None, []), (None, None), (None, "a"), (None, {}),
            (None, (None,)), (None, (["a", 0, "", True],)), (None, (("a", 0),)), (None, (("a", 0, ""),)),
            (None, (("a", 0, "", True, 0),)), (None, ("a", 0, "", True)), (None, (("", 0, "", True),)),
            (None, (("ba", 0, "", True),)), (None, (("aa", 0, "", True),)), (None, ((None, 0, "", True),)),
            (None, ((("a",), 0, "", True),)), (None, (("\t", 0, "", True),)), (None, (("a", None, "", True),)),
            (None, (("a", True, "", True),)), (None, (("a", -1, "", True),)), (None, (("a", 2, "", True),)),
            (None, (("a", "0", "", True),)), (None, (("a", 0, None, True),)), (None, (("a", 0, 0, True),)),
            (None, (("a", 0, "%", True),)), (None, (("a", 0, ["a"], True),)), (None, (("a", 0, "", 1),)),
            (None, (("a", 0, "", 0),)), (None, (("a", 0, "", None),)), (None, (("a", 0, "", ""),)),
            (None, (("a", 0, "", True), ("a", 0, "", True))), (None, (("ab", 0, "", True), ("bc", 1, "", True))),
        ]
        for state in wrong_states:
            for states in ((state, good), (good, state)):
                table = ("", states)
                self.assertIs(raised(self, InvalidTable, Machine.of_table, table).value, table)
        wrong = ["", "a", good, (), ("",), ("", (good,), ""), ["", (good,)], ("", [good]), ("", ()), ("", good, good)]
        wrong += [(None, (good,)), (0, (good,)), ("\t", (good,)), (("a",), (good,)), ("", None), ((good,), "")]
        for value in NO_STRINGS + NO_TEXTS + wrong + [TextSet.every().table, Machine.of(Program())]:
            self.assertIs(raised(self, InvalidTable, Machine.of_table, value).value, value)


class MethodsTest(MachinesTest):
    def setUp(self):
        chance = random.Random(15)
        self.words = words_over("ab", 6)
        self.tables = [random_machine(chance, "ab") for _ in range(160)]
        self.sets = [random_table(chance, "ab") for _ in range(160)]

    def test_sure_for_each_beginning(self):
        machine = Machine.of(Program(AtOnce(("ab", "x"), ("ba", "y"))))
        for text, told in (("", ""), ("a", ""), ("ab", "x"), ("aba", None), ("abc", "xc"), ("abba", "xy"), ("abb", "x"),
                           ("bb", "b"), ("b", ""), ("abbaa", "xya"), ("abab", None)):
            self.assertEqual(machine.sure(text), told)
            self.assertEqual(machine.sure(text=text), told)
        never = Machine.of_table(NEVER)
        self.assertEqual([never.sure(""), never.sure("a"), never.run(""), never.domain], [None, None, None, TextSet()])

    def test_sure_of_programs(self):
        words = words_over("ab\n", 6)
        for program in random_programs(random.Random(16), "ab", 60, KINDS):
            results = [(word, naive_outcome(program, word)) for word in words]
            machine = Machine.of(program)
            for word in words_over("ab\n", 2):
                told = [result for text, result in results if text.startswith(word) and result is not None]
                if told:
                    self.assertTrue(os.path.commonprefix(told).startswith(machine.sure(word)))
                elif machine.sure(word) is not None:
                    # Then a longer text that begins so is right.
                    self.assertTrue(machine.limited_to(TextSet.of_table(beginning_with(word))).domain)

    def test_domain(self):
        for table in self.tables:
            domain = Machine.of_table(table).domain
            self.assertIsInstance(domain, TextSet)
            for word in self.words:
                self.assertIs(word in domain, result_of(table, word) is not None)
            self.assertEqual(TextSet.of_table(domain.table[:60]).table, domain.table)

    def test_into_and_limited_to(self):
        for table, told in zip(self.tables, self.sets):
            machine, texts = Machine.of_table(table), TextSet.of_table(told)
            into, limited = machine.into(texts), machine.limited_to(texts)
            self.assert_least(limited.table)
            self.assertEqual(limited.domain, machine.domain & texts)
            for word in self.words:
                result = result_of(table, word)
                self.assertIs(word in into, result is not None and leads_to(told, result))
                self.assertEqual(limited.run(word), result if leads_to(told, word) else None)
        self.assertEqual(machine.into(texts=texts), into)
        self.assertEqual(machine.limited_to(texts=texts), limited)

    def test_into_and_limited_to_all_and_none(self):
        machine = Machine.of(Program(Once("ab", "c"), Perhaps("cc", "")))
        self.assertEqual(machine.into(TextSet.every()), machine.domain)
        self.assertEqual(machine.into(TextSet()), TextSet())
        self.assertEqual(machine.limited_to(TextSet.every()), machine)
        self.assertEqual(machine.limited_to(TextSet()).table, NEVER)
        self.assertEqual(machine.limited_to(TextSet("cab", "ab")).table, ("", (
            (None, (("a", 1, "c", False), ("c", 2, "", False))), (None, (("b", 3, "", False),)),
            (None, (("a", 1, "", False),)), ("", ()))))

    def test_then(self):
        for one, other in zip(self.tables, self.tables[::-1]):
            machine = Machine.of_table(one).then(Machine.of_table(other))
            self.assert_least(machine.table)
            for word in self.words:
                result = result_of(one, word)
                self.assertEqual(machine.run(word), None if result is None else result_of(other, result))
        same = Machine.of(Program())
        machine = Machine.of(Program(First("ab", "b")))
        self.assertEqual(machine.then(other=same), machine)
        self.assertEqual(same.then(machine), machine)
        self.assertEqual(Machine.of_table(NEVER).then(same).table, NEVER)
        # The second machine has no move for what is written at the beginning, or in the end.
        self.assertEqual(Machine.of_table(("b", SAME[1])).then(Machine.of(Program()).limited_to(TextSet("a"))).table, NEVER)
        self.assertEqual(Machine.of_table(("", (("b", ()),))).then(same.limited_to(TextSet("a"))).table, NEVER)

    def test_equal(self):
        for one in self.tables[:40]:
            for other in self.tables[:40]:
                words = words_over("ab", 8)
                told = [result_of(one, word) for word in words] == [result_of(other, word) for word in words]
                self.assertIs(Machine.of_table(one) == Machine.of_table(other), told)
                self.assertIs(Machine.of_table(one) != Machine.of_table(other), not told)
        machine = Machine.of(Program())
        for value in NO_STRINGS + ["", "a", SAME, machine.table, Program(), TextSet.every()]:
            self.assertIs(machine == value, False)
            self.assertIs(value == machine, False)

    def test_run_by_name(self):
        self.assertEqual(Machine.of(Program(Once("a", "b"))).run(text="xa"), "xb")


if __name__ == "__main__":
    unittest.main()
