"""Two letters that do the same are still two letters: each question beside all short texts of several such letters."""

import random
import unittest

from anchoredits.anchors import spoiled, stays
from anchoredits.compare import (
    agreeing, doubled, exchangeable, needless, one_edit, orders, orders_alike, parted, unchanged, unheld, unrestored,
    within,
)
from anchoredits.edits import AtOnce, First, Once, Perhaps
from anchoredits.likeness import is_likeness, likeness
from anchoredits.machines import Machine
from anchoredits.programs import Program
from anchoredits.sets import TextSet

from samples import by_number, naive_outcome, words_over
from test_machines import result_of
from test_sets import random_table

# The newline, the first one of all letters, stands for all letters that are in no program.
WORDS = by_number(words_over("\nabcd", 4))

# Both b and c go, both d and e, both b and the space become an a.
GONE_B_C = Program(Perhaps("b", "c"), Once("c", ""))
GONE_D_E = Program(Perhaps("d", "e"), Once("e", ""))
TO_A = Program(Perhaps("b", " "), Once(" ", "a"), Once("a", "a"))

# Exchanged in place, and in nothing else: so only the letters that do the same are two texts with one result.
IN_PLACE = [
    Program(Perhaps("b", "c"), Once("c", "a"), Once("a", "a")),
    Program(Perhaps("d", "b"), Once("b", "c"), Once("c", "c")),
    Program(Perhaps("a", "b"), Perhaps("b", "c"), Once("c", "d"), Once("d", "d")),
    Program(Once("ab", "ab"), Perhaps("c", "d"), Once("d", "a"), AtOnce(("ab", "ab"))),
]


def alike_programs(chance, number, kinds=(Once, Perhaps, Perhaps, First, AtOnce)):
    """So many programs in most of which several letters do the same."""
    told = []
    while len(told) < number:
        edits = []
        for _ in range(chance.randint(1, 4)):
            kind = chance.choice(kinds)
            if kind is AtOnce:
                parts = {chance.choice("abcd"): chance.choice(["a", "b", "c", "d", ""]) for _ in range(3)}
                edits.append(AtOnce(*list(parts.items())[:chance.randint(1, 3)]))
            else:
                old = chance.choice("abcd") + chance.choice(["", "", "", "", "a", "b"])
                edits.append(kind(old, chance.choice(["a", "b", "c", "d", "", ""])))
        program = Program(*edits)
        if len("".join(program.olds)) <= 8:
            told.append(program)
    return told


class LettersAlikeTest(unittest.TestCase):
    @classmethod
    def setUpClass(cls):
        programs = alike_programs(random.Random(31), 100)
        cls.programs = [GONE_B_C, GONE_D_E, TO_A, *IN_PLACE, *programs]
        cls.pairs = [(GONE_B_C, GONE_D_E), (GONE_D_E, GONE_B_C), (TO_A, GONE_B_C)]
        cls.pairs += list(zip(programs[:50], programs[50:]))

    def assert_first(self, told, words):
        """That a text that is told is the first one of these of WORDS, or one that is not among WORDS."""
        first = next(iter(words), None)
        if told is None or told in WORDS:
            self.assertEqual(told, first)
        else:
            # A letter that no program has stands there for a newline only ahead of it.
            self.assertTrue(first is None or by_number([first, told])[0] == told)

    def test_doubled_examples(self):
        first, second, result = doubled(TO_A)
        self.assertEqual(sorted([first, second]), [" ", "b"])
        self.assertEqual(result, "a")
        for program in (GONE_B_C, GONE_D_E, Program(AtOnce(("a", "x"), ("b", "x"))),
                        Program(Perhaps("a", "b"), Perhaps("b", "c"), Perhaps("c", "d"), Once("d", ""))):
            first, second, result = doubled(program)
            self.assertNotEqual(first, second)
            self.assertEqual([program.run(first), program.run(second)], [result, result])

    def test_doubled(self):
        some = 0
        for program in self.programs:
            results = {}
            for word in WORDS:
                results.setdefault(naive_outcome(program, word), []).append(word)
            results.pop(None, None)
            told = doubled(program)
            if told is None:
                self.assertTrue(all(len(words) == 1 for words in results.values()))
            else:
                some += 1
                first, second, result = told
                self.assertNotEqual(first, second)
                self.assertEqual([naive_outcome(program, first), naive_outcome(program, second)], [result, result])
                self.assertIsNotNone(result)
        self.assertGreater(some, 40)
        self.assertGreater(len(self.programs) - some, 20)

    def test_agreeing_example(self):
        # One keeps what the other one leaves out: results of one length, with unlike letters.
        self.assertEqual([GONE_B_C.run("bd"), GONE_D_E.run("bd")], ["d", "b"])
        self.assertEqual(agreeing(GONE_B_C, GONE_D_E), TextSet())
        self.assertNotIn("bd", orders(Program(First("bd", "d")), Program(First("bd", "b")))[0])
        self.assertEqual([parted(GONE_B_C, GONE_D_E), within(GONE_B_C, GONE_D_E)], ["b", "b"])

    def test_two_programs(self):
        for one, other in self.pairs:
            outcomes = [(word, naive_outcome(one, word), naive_outcome(other, word)) for word in WORDS]
            self.assert_first(parted(one, other), (word for word, left, right in outcomes if left != right))
            self.assert_first(within(one, other), (
                word for word, left, right in outcomes if left is not None and left != right))
            both = agreeing(one, other)
            forth_and_back = orders(one, other)
            for word, left, right in outcomes:
                self.assertIs(word in both, left is not None and left == right)
                forth = None if left is None else naive_outcome(other, left)
                back = None if right is None else naive_outcome(one, right)
                self.assertEqual([word in texts for texts in forth_and_back], [
                    forth is not None and forth == back, forth is not None and back is not None and forth != back,
                    forth is not None and back is None, forth is None and back is not None])

    def test_one_program(self):
        chance = random.Random(32)
        for program in self.programs[:40]:
            outcomes = {word: naive_outcome(program, word) for word in WORDS}
            same = unchanged(program)
            machine = Machine.of(program)
            before, after = [TextSet.of_table(random_table(chance, "abcd")) for _ in range(2)]
            into, limited = machine.into(after), machine.limited_to(before)
            for word, result in outcomes.items():
                self.assertIs(word in same, result == word)
                self.assertEqual(machine.run(word), result)
                self.assertIs(word in machine.domain, result is not None)
                self.assertIs(word in into, result is not None and result in after)
                self.assertEqual(limited.run(word), result if word in before else None)
                if machine.sure(word) is not None and result is not None:
                    self.assertTrue(result.startswith(machine.sure(word)))
            self.assert_first(unheld(before, program, after), (
                word for word, result in outcomes.items()
                if word in before and result is not None and result not in after))
            told = one_edit(program)
            if told is not None:
                for word, result in outcomes.items():
                    self.assertEqual(naive_outcome(Program(Once(*told)), word), result)

    def test_orders_and_edits_of_one_program(self):
        for program in self.programs[:40]:
            outcomes = [naive_outcome(program, word) for word in WORDS]

            def is_alike(order):
                other = Program(*[program.edits[index] for index in order])
                return [naive_outcome(other, word) for word in WORDS] == outcomes

            indexes = list(range(len(program)))
            for order in orders_alike(program):
                self.assertTrue(is_alike(order))
            for index in needless(program):
                self.assertTrue(is_alike(indexes[:index] + indexes[index + 1:]))
            for index in indexes[:-1]:
                order = indexes[:index] + [index + 1, index] + indexes[index + 2:]
                told = exchangeable(program, index)
                self.assertIs(tuple(order) in orders_alike(program), told is None)
                other = Program(*[program.edits[place] for place in order])
                self.assert_first(told, (
                    word for word in WORDS if naive_outcome(program, word) != naive_outcome(other, word)))

    def test_back_and_anchors(self):
        chance = random.Random(33)
        for program in alike_programs(chance, 60, (Once,)):
            edit = Once(chance.choice("abcd"), chance.choice(["", "a", "b"]))
            if len("".join(program.olds)) > 7:
                continue
            results = [(word, naive_outcome(program, word)) for word in WORDS if word.count(edit.old) == 1]
            self.assert_first(stays(edit, program), (
                word for word, result in results if result is not None and result.count(edit.old) != 1))
            if "" not in program.news:
                backwards = Program(*[Once(once.new, once.old) for once in reversed(program.edits)])
                self.assert_first(unrestored(program), (
                    word for word in WORDS if naive_outcome(program, word) is not None
                    and naive_outcome(backwards, naive_outcome(program, word)) != word))

    def test_spoiled(self):
        chance = random.Random(34)
        self.assertEqual(spoiled(Once("a", ""), [Once("b", "a"), Once("c", "a")]), ("abc", (0,)))
        for _ in range(40):
            edit = Once(chance.choice(["a", "b", "ab"]), "")
            others = [Once(letter, chance.choice("abcd")) for letter in chance.sample("abcd", chance.randint(1, 2))]
            broken = {}
            for word in WORDS:
                if all(naive_outcome(Program(once), word) is not None for once in [edit, *others]):
                    for way in [(0,), (1,), (0, 1), (1, 0)][:3 * len(others) - 2]:
                        result = naive_outcome(Program(*[others[index] for index in way]), word)
                        if result is not None and result.count(edit.old) != 1:
                            broken.setdefault(word, way)
            told = spoiled(edit, others)
            self.assert_first(told if told is None else told[0], broken)
            if told is not None and told[0] in broken:
                self.assertEqual(told[1], broken[told[0]])

    def test_machines_that_do_the_same(self):
        # One table for each letter of its own, the other one for several letters at once.
        one = ("", (("", (("bc", 1, "x", False), ("de", 0, "", True))), ("y", (("bc", 1, "", True),))))
        other = ("", (("", (("b", 1, "x", False), ("c", 2, "x", False), ("d", 0, "d", False), ("e", 0, "", True))),
                      ("y", (("b", 1, "", True), ("c", 2, "c", False))), ("y", (("bc", 2, "", True),))))
        self.assertEqual(Machine.of_table(one), Machine.of_table(other))
        self.assertTrue(is_likeness(one, other, likeness(one, other)))
        # Here c becomes a b.
        wrong = ("", (other[1][0], other[1][1], ("y", (("b", 2, "", True), ("c", 2, "b", False)))))
        self.assertNotEqual(Machine.of_table(one), Machine.of_table(wrong))
        self.assertIsNone(likeness(one, wrong))
        self.assertEqual([result_of(one, "cc"), result_of(wrong, "cc")], ["xcy", "xby"])
        # Both letters may be read, but what is written later does not tell which one it was.
        late = ("", ((None, (("bc", 1, "", False),)), ("b", ())))
        soon = ("", ((None, (("bc", 1, "", True),)), ("", ())))
        self.assertIsNone(likeness(late, soon))
        self.assertNotEqual(Machine.of_table(late), Machine.of_table(soon))


if __name__ == "__main__":
    unittest.main()
