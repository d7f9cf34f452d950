import itertools
import random
import unittest

from anchoredits.compare import (
    agreeing, back, doubled, exchangeable, needless, one_edit, orders, orders_alike, parted, unchanged, unheld,
    unrestored, within,
)
from anchoredits.edits import AtOnce, First, Once, Perhaps
from anchoredits.errors import NoBack, OutOfRange
from anchoredits.programs import Program
from anchoredits.sets import TextSet

from samples import NO_STRINGS, by_number, naive_outcome, raised, random_programs, words_over
from test_sets import random_table

KINDS = [Once, First, Perhaps, AtOnce]

# The newline, the first one of all letters, stands for all letters that are in no program.
WORDS = by_number(set(words_over("\nab", 6) + words_over("ab", 8)))


def like(chance, program):
    """A program that is much like another one, perhaps the same for every text."""
    edits = list(program.edits)
    place = chance.randrange(len(edits))
    edit = edits[place]
    way = chance.randrange(4)
    if way == 0:
        chance.shuffle(edits)
    elif way == 1:
        edits.pop(place)
    elif isinstance(edit, AtOnce):
        edits[place] = AtOnce(*reversed(edit.parts)) if way == 2 else AtOnce(*edit.parts[:1])
    elif way == 2:
        edits[place] = AtOnce((edit.old, edit.new))
    else:
        edits[place] = chance.choice([Once, First, Perhaps])(edit.old, edit.new)
    return Program(*edits)


class CompareTest(unittest.TestCase):
    @classmethod
    def setUpClass(cls):
        chance = random.Random(17)
        cls.programs = random_programs(chance, "ab", 90, KINDS)
        cls.pairs = list(zip(cls.programs[:30], cls.programs[30:60]))
        cls.pairs += [(program, like(chance, program)) for program in cls.programs if len(program) > 0]

    def assert_first(self, told, words):
        """That a text that is told is the first one of these of WORDS, or one of more than 6 letters."""
        first = next(iter(words), None)
        if first is not None and len(first) <= 6:
            self.assertEqual(told, first)
        elif told is None:
            self.assertIsNone(first)
        else:
            self.assertGreater(len(told), 6)
            self.assertTrue(first is None or by_number([first, told])[0] == told)


class PartedTest(CompareTest):
    def test_examples(self):
        one, other = Program(Once("ab", "c")), Program(Perhaps("ab", "c"))
        self.assertEqual(
            [parted(one, other), within(one, other), parted(one, Program(First("ab", "c"))),
             within(Program(First("ab", "c")), one)],
            ["", None, "abab", "abab"])
        self.assertEqual(parted(other=one, one=other), "")
        self.assertEqual(within(other=one, one=other), "")

    def test_first_and_least_text(self):
        # Two programs that differ for one letter ahead of the text only, or behind it.
        self.assertEqual(parted(Program(Once("a", "b")), Program(Once("a", "c"))), "a")
        self.assertEqual(parted(Program(Once("~", "b")), Program(Once("~", "c"))), "~")
        self.assertEqual(within(Program(Perhaps("ab", "")), Program(Perhaps("ab", "b"))), "ab")
        self.assertEqual(parted(Program(Perhaps("a", "a")), Program(Perhaps("b", "b"))), "aa")
        self.assertEqual(parted(Program(Perhaps("b", "b")), Program(Perhaps("a", "a"))), "aa")
        self.assertEqual(within(Program(Perhaps("b", "b")), Program(Perhaps("a", "a"))), "aa")
        self.assertEqual(within(Program(Perhaps("a", "a")), Program(Perhaps("b", "b"))), "bb")

    def test_differing_for_few_texts(self):
        # Of all texts of at most 8 letters a and b, each pair parts on a single one.
        for one, other, told in (
                (Program(First("aaaaaaaa", "b")), Program(Once("a", ""), Once("a", "")), "aaaaaaaa"),
                (Program(First("abababab", "")), Program(First("abababab", "a")), "abababab"),
                (Program(Once("babaabab", "b" * 12)), Program(Once("babaabab", "b" * 11)), "babaabab")):
            self.assertEqual(parted(one, other), told)
            self.assertEqual(within(one, other), told)
            wrong = [word for word in WORDS if naive_outcome(one, word) != naive_outcome(other, word)]
            self.assertEqual(wrong, [told])
        # What is right nowhere is alike.
        self.assertIsNone(parted(Program(Once("a", "bb"), Once("a", "")), Program(Once("b", "aa"), Once("b", ""))))
        self.assertIsNone(parted(Program(Once("a", ""), Once("a", "")), Program(Once("b", ""), Once("b", ""))))

    def test_beside_all_short_texts(self):
        alike = 0
        for one, other in self.pairs:
            outcomes = [(word, naive_outcome(one, word), naive_outcome(other, word)) for word in WORDS]
            told = parted(one, other)
            self.assert_first(told, (word for word, left, right in outcomes if left != right))
            alike += told is None
            self.assertEqual(parted(other, one), told)
            if told is not None:
                self.assertNotEqual(naive_outcome(one, told), naive_outcome(other, told))
            told = within(one, other)
            self.assert_first(told, (word for word, left, right in outcomes if left is not None and left != right))
            told = agreeing(one, other)
            for word, left, right in outcomes:
                self.assertIs(word in told, left is not None and left == right)
        self.assertGreater(alike, 10)

    def test_none_for_a_program_and_itself(self):
        for program in self.programs:
            self.assertIsNone(parted(program, Program(*program.edits)))
            self.assertIsNone(within(program, Program(*program.edits)))

    def test_outcomes_do_not_tell_errors_apart(self):
        self.assertIsNone(parted(Program(Once("a", ""), Once("b", "")), Program(Once("b", ""), Once("a", ""))))
        self.assertIsNone(parted(Program(AtOnce(("ab", ""), ("ba", ""), ("aba", ""))),
                                 Program(Once("a", ""), Once("a", ""))))


class AgreeingTest(CompareTest):
    def test_sets(self):
        self.assertIsInstance(agreeing(Program(), Program()), TextSet)
        self.assertEqual(agreeing(Program(), Program()), TextSet.every())
        self.assertEqual(agreeing(Program(Once("a", "b")), Program(Once("a", "c"))), TextSet())
        told = TextSet.having("a") & TextSet.having("b")
        self.assertEqual(agreeing(one=Program(First("a", "a"), First("b", "b")), other=Program()), told)
        program = Program(First("a", "bcdefghijkl"))
        self.assertEqual(agreeing(program, program), TextSet.having("a"))
        # Where one deletes what the other one does not, the rest must go round: so no text is alike.
        self.assertEqual(agreeing(Program(Once("ab", "")), Program(Once("ab", "ab"))), TextSet())
        self.assertEqual(agreeing(Program(First("aa", "a"), First("b", "bb")), Program(First("b", "b"))).least, None)
        self.assertEqual(agreeing(Program(First("aa", "a"), First("b", "ab")), Program(First("b", "b"))).least, "aab")

    def test_unchanged(self):
        self.assertEqual(unchanged(Program()), TextSet.every())
        self.assertEqual(unchanged(Program(Perhaps("a", "b"))), TextSet.every() - TextSet.having("a"))
        self.assertEqual(unchanged(program=Program(First("a", "b"), First("b", "a"))).least, "a")
        for program in self.programs:
            told = unchanged(program)
            for word in WORDS[:500]:
                self.assertIs(word in told, naive_outcome(program, word) == word)


class OrdersTest(CompareTest):
    def test_each_of_the_four(self):
        one, other = Program(Once("a", "b")), Program(Once("b", "c"))
        same, unlike, one_first, other_first = orders(one, other)
        self.assertEqual([same.least, unlike.least, one_first.least, other_first.least], [None, None, "a", "ab"])
        same, unlike, one_first, other_first = orders(Program(First("a", "b")), Program(First("b", "a")))
        self.assertEqual([same.least, unlike.least, one_first.least, other_first.least], [None, "ab", "a", "b"])
        told = orders(one=one, other=other)
        self.assertIs(type(told), tuple)
        self.assertEqual([type(texts) for texts in told], [TextSet] * 4)

    def test_beside_all_short_texts(self):
        for one, other in self.pairs[::2]:
            told = orders(one, other)
            for word in WORDS[:700]:
                left, right = naive_outcome(one, word), naive_outcome(other, word)
                left = None if left is None else naive_outcome(other, left)
                right = None if right is None else naive_outcome(one, right)
                both = left is not None and right is not None
                wanted = [both and left == right, both and left != right,
                          left is not None and not both, right is not None and not both]
                self.assertEqual([word in texts for texts in told], wanted)

    def test_more_than_four_edits_together(self):
        one = Program(*[Once("a", "a")] * 4)
        other = Program(*[Once("b", "b")] * 4)
        told = orders(one, other)
        self.assertEqual(told[0], unchanged(Program(Once("a", "a"), Once("b", "b"))) | told[0])
        self.assertEqual([bool(texts) for texts in told], [True, False, False, False])


class ExchangeableTest(CompareTest):
    def test_examples(self):
        self.assertEqual(
            [needless(Program(Once("a", "b"), Perhaps("a", "a"))),
             exchangeable(Program(Once("a", "b"), Once("c", "d")), 0),
             exchangeable(Program(Once("a", "b"), Once("b", "c")), 0)],
            [(1,), None, "a"])

    def test_each_index(self):
        for program in self.programs:
            for index in range(len(program) - 1):
                edits = list(program.edits)
                edits[index], edits[index + 1] = edits[index + 1], edits[index]
                other = Program(*edits)
                self.assertEqual(exchangeable(program, index), parted(program, other))
                self.assertEqual(exchangeable(index=index, program=program), exchangeable(program, index))
                self.assert_first(exchangeable(program, index), (
                    word for word in WORDS if naive_outcome(program, word) != naive_outcome(other, word)))

    def test_out_of_range(self):
        for number in range(5):
            program = Program(*[Once("a", "a")] * number)
            for value in NO_STRINGS + ["", "a", "0", -1, -2, number - 1, number, 10 ** 59, -10 ** 59]:
                if type(value) is int and 0 <= value < number - 1:
                    self.assertIsNone(exchangeable(program, value))
                else:
                    self.assertIs(raised(self, OutOfRange, exchangeable, program, value).value, value)

    def test_orders_alike(self):
        self.assertEqual(orders_alike(Program()), [()])
        self.assertEqual(orders_alike(Program(Once("a", "b"))), [(0,)])
        self.assertEqual(orders_alike(Program(Once("a", "x"), Once("b", "y"), Once("c", "z"))),
                         list(itertools.permutations(range(3))))
        self.assertEqual(orders_alike(program=Program(Once("a", "b"), Once("b", "c"), Once("d", "e"))),
                         [(0, 1, 2), (0, 2, 1), (2, 0, 1)])
        self.assertEqual(orders_alike(Program(Once("a", "b"), Once("a", "b"))), [(0, 1), (1, 0)])

    def test_orders_alike_beside_parted(self):
        for program in self.programs[:45]:
            told = orders_alike(program)
            self.assertIs(type(told), list)
            for order in itertools.permutations(range(len(program))):
                other = Program(*[program.edits[index] for index in order])
                self.assertIs(order in told, parted(program, other) is None)
            self.assertEqual(told, sorted(set(told)))
            for order in told:
                self.assertIs(type(order), tuple)

    def test_needless(self):
        self.assertEqual(needless(Program()), ())
        self.assertEqual(needless(Program(AtOnce(), Once("a", "b"), AtOnce())), (0, 2))
        self.assertEqual(needless(program=Program(Once("a", "a"), Once("a", "a"))), (0, 1))
        self.assertEqual(needless(Program(Perhaps("a", "a"))), ())
        for program in self.programs:
            told = needless(program)
            self.assertIs(type(told), tuple)
            for index in range(len(program)):
                others = Program(*program.edits[:index], *program.edits[index + 1:])
                self.assertIs(index in told, parted(program, others) is None)


class BackTest(CompareTest):
    def test_back(self):
        self.assertEqual(back(Program(Once("a", "b"), Once("cd", "e"))), Program(Once("e", "cd"), Once("b", "a")))
        self.assertEqual(back(Program()), Program())
        self.assertEqual(back(program=Program(Once("a", "b" * 12))), Program(Once("b" * 12, "a")))

    def test_no_back(self):
        for edit in (First("a", "b"), Perhaps("a", "b"), AtOnce(("a", "b")), AtOnce(), Once("a", "")):
            for index in range(4):
                edits = [Once("a", "b")] * 3
                edits.insert(index, edit)
                for action in (back, unrestored):
                    told = raised(self, NoBack, action, Program(*edits)).index
                    self.assertEqual(told, index)
                    self.assertIs(type(told), int)
        self.assertEqual(raised(self, NoBack, back, Program(Once("a", ""), First("a", "b"))).index, 0)
        self.assertEqual(raised(self, NoBack, unrestored, Program(Once("a", "b"), First("a", "b"), AtOnce())).index, 1)

    def test_unrestored(self):
        self.assertEqual(unrestored(Program(Once("a", "b"))), "ab")
        self.assertIsNone(unrestored(Program(Once("a", "a"))))
        self.assertIsNone(unrestored(Program()))
        self.assertIsNone(unrestored(program=Program(Once("a", "b"), Once("b", "a"))))
        self.assertEqual(unrestored(Program(Once("ab", "ba"))), "abba")

    def test_unrestored_beside_all_short_texts(self):
        for program in random_programs(random.Random(18), "ab", 400, [Once]):
            if "" in program.news:
                continue
            other = back(program)
            told = unrestored(program)
            results = ((word, naive_outcome(program, word)) for word in WORDS)
            self.assert_first(told, (
                word for word, result in results if result is not None and naive_outcome(other, result) != word))


class DoubledTest(CompareTest):
    def test_ordinary(self):
        self.assertEqual(sorted(doubled(Program(Once("a", "b")))[:2]), ["ab", "ba"])
        for program in (Program(), Program(Once("a", "a")), Program(AtOnce(("a", "b"), ("b", "a"))),
                        Program(Once("a", ""), Once("a", "")), Program(Perhaps("a", "a"), Perhaps("b", "b")),
                        Program(Once("a", "b"), Once("b", "a"))):
            self.assertIsNone(doubled(program))
        # One of the texts is a beginning of the other one.
        first, second, result = doubled(program=Program(Perhaps("a", "")))
        self.assertEqual([naive_outcome(Program(Perhaps("a", "")), text) for text in (first, second)], [result] * 2)

    def test_beside_all_short_texts(self):
        none = 0
        for program in self.programs + random_programs(random.Random(19), "abc", 60, KINDS):
            results = {}
            for word in WORDS:
                results.setdefault(naive_outcome(program, word), []).append(word)
            results.pop(None, None)
            told = doubled(program)
            if told is None:
                none += 1
                self.assertTrue(all(len(words) == 1 for words in results.values()))
            else:
                self.assertIs(type(told), tuple)
                first, second, result = told
                self.assertNotEqual(first, second)
                self.assertEqual(naive_outcome(program, first), result)
                self.assertEqual(naive_outcome(program, second), result)
                self.assertIsNotNone(result)
        self.assertGreater(none, 20)


class OneEditTest(CompareTest):
    def test_ordinary(self):
        self.assertEqual(one_edit(Program(Once("ab", "c"))), ("ab", "c"))
        self.assertEqual(one_edit(Program(AtOnce(("ab", "")))), ("ab", ""))
        self.assertEqual(one_edit(program=Program(Once("ab", "ab"), Once("ab", "c"))), ("ab", "c"))
        self.assertEqual(one_edit(Program(Once("abc", "abc"), Once("bc", "d"), Perhaps("abc", ""))), None)
        self.assertIs(type(one_edit(Program(Once("ab", "c")))), tuple)
        for program in (Program(), Program(First("a", "b")), Program(Perhaps("a", "b")), Program(Once("a", "b")).then(
                Program(Once("c", "d"))), Program(Once("ab", "c"), Once("c", "xy")), Program(Once("a", ""), Once("a", ""))):
            self.assertIsNone(one_edit(program))

    def test_changes_within_the_old(self):
        # What is put is changed again, where it can be told from all else.
        self.assertEqual(one_edit(Program(Once("ab", "abb"), Once("abb", "c"), AtOnce())), ("ab", "c"))
        self.assertIsNone(one_edit(Program(Once("ab", "ba"), Once("ba", "c"))))
        self.assertEqual(one_edit(Program(Once("a", "aa"), Once("aa", "b"))), ("a", "b"))

    def test_beside_all_short_texts(self):
        some = 0
        for program in self.programs + random_programs(random.Random(20), "ab", 200, [Once, AtOnce]):
            told = one_edit(program)
            right = [word for word in WORDS if naive_outcome(program, word) is not None]
            if told is not None:
                some += 1
                self.assertEqual(told, (right[0], naive_outcome(program, right[0])))
                for word in WORDS:
                    self.assertEqual(naive_outcome(program, word), naive_outcome(Program(Once(*told)), word))
            elif right and right[0]:
                single = Once(right[0], naive_outcome(program, right[0]))
                if len(single.old) <= 8 and len(single.new) <= 12:
                    self.assertIsNotNone(parted(program, Program(single)))
        self.assertGreater(some, 20)


class UnheldTest(CompareTest):
    def test_ordinary(self):
        program = Program(Once("a", "bb"))
        self.assertEqual(unheld(TextSet.every(), program, TextSet.having("b")), None)
        self.assertEqual(unheld(TextSet.every(), program, TextSet.having("cb")), "a")
        self.assertEqual(unheld(TextSet.having("c"), program, TextSet.having("cb")), "ac")
        self.assertEqual(unheld(after=TextSet(), program=program, before=TextSet("ca", "b", "aa")), "ca")
        self.assertIsNone(unheld(TextSet("b", "aa"), program, TextSet()))
        self.assertIsNone(unheld(TextSet(), program, TextSet()))

    def test_beside_all_short_texts(self):
        chance = random.Random(21)
        for program in self.programs:
            before, after = [TextSet.of_table(random_table(chance, "ab\n")) for _ in range(2)]
            results = ((word, naive_outcome(program, word)) for word in WORDS if word in before)
            wrong = (word for word, result in results if result is not None and result not in after)
            self.assert_first(unheld(before, program, after), wrong)


if __name__ == "__main__":
    unittest.main()
