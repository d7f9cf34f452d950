import itertools
import random
import unittest

from anchoredits.errors import InvalidCount, InvalidTable, InvalidText
from anchoredits.sets import TextSet

from samples import LETTERS, NO_STRINGS, NO_TEXTS, begins_at, by_number, raised, words_over

ALL = ((True, ((LETTERS, 0),)),)
NONE = ((False, ()),)


def without(*letters):
    """All letters but these, ascending."""
    return "".join(letter for letter in LETTERS if letter not in letters)


def all_from(index):
    """The state with this index from which all texts lead to True."""
    return (True, ((LETTERS, index),))


def leads_to(table, text, state=0):
    """Whether a text leads from a state to True, as promise 20 tells it."""
    for letter in text:
        targets = [target for letters, target in table[state][1] if letter in letters]
        if not targets:
            return False
        state = targets[0]
    return table[state][0]


def random_table(chance, letters):
    """A table over these letters, in general not least."""
    number = chance.randint(1, 5)
    states = []
    for _ in range(number):
        rest = list(letters)
        chance.shuffle(rest)
        moves = []
        while rest:
            many = chance.randint(1, len(rest))
            if chance.random() < 0.8:
                moves.append(("".join(sorted(rest[:many])), chance.randrange(number)))
            rest = rest[many:]
        states.append((chance.random() < 0.35, tuple(moves)))
    return tuple(states)


class SetsTest(unittest.TestCase):
    def assert_least(self, table):
        """That a table is least, by the words of promise 20."""
        self.assertIs(type(table), tuple)
        numbers = {0: 0}
        for state, (is_in, moves) in enumerate(table):
            self.assertIs(type(is_in), bool)
            self.assertIs(type(moves), tuple)
            self.assertEqual(list(moves), sorted(moves))
            self.assertEqual(len({target for _, target in moves}), len(moves))
            for letters, target in moves:
                self.assertEqual(list(letters), sorted(letters))
                numbers.setdefault(target, len(numbers))
        self.assertEqual(list(numbers.items()), [(state, state) for state in range(len(table))])
        alike = self.alike_states(table)
        self.assertEqual(len(set(alike)), len(table))
        for state in range(1, len(table)):
            self.assertTrue(self.leads_somewhere(table, state))

    def alike_states(self, table):
        """For each state a number, equal for states that lead to True by the same texts."""
        # A further state, behind missing moves.
        numbers = [int(is_in) for is_in, _ in table] + [0]
        for _ in range(len(table) + 1):
            keys = []
            for state in range(len(table) + 1):
                row = {} if state == len(table) else {
                    letter: target for letters, target in table[state][1] for letter in letters}
                keys.append((numbers[state], tuple(numbers[row.get(letter, len(table))] for letter in LETTERS)))
            numbers = [keys.index(key) for key in keys]
        return numbers[:-1]

    def leads_somewhere(self, table, state):
        met = [state]
        for each in met:
            met += [target for _, target in table[each][1] if target not in met]
        return any(table[each][0] for each in met)

    def assert_set(self, texts, told, words):
        """That of these words just those that are told are in a set with a least table."""
        told = set(told)
        for word in words:
            self.assertIs(word in texts, word in told)
            self.assertIs(leads_to(texts.table, word), word in told)
        self.assert_least(texts.table)


class LeastTablesTest(SetsTest):
    def test_empty_set_and_all_texts(self):
        self.assertEqual(TextSet().table, NONE)
        self.assertEqual(TextSet.every().table, ALL)
        self.assertEqual(TextSet("").table, ((True, ()),))
        for texts in (TextSet(), TextSet.every(), TextSet("")):
            self.assert_least(texts.table)

    def test_numbers_and_strings(self):
        self.assertEqual(TextSet("b").table, ((False, (("b", 1),)), (True, ())))
        self.assertEqual(TextSet("ba", "ab").table, (
            (False, (("a", 1), ("b", 2))), (False, (("b", 3),)), (False, (("a", 3),)), (True, ())))
        # Letters that lead to one state stand in one string, also where others stand between them.
        self.assertEqual(TextSet("a", "c", "b", "bb").table, (
            (False, (("ac", 1), ("b", 2))), (True, ()), (True, (("b", 1),))))
        self.assertEqual(TextSet("\n", "~", "ab", "cb").table, (
            (False, (("\n~", 1), ("ac", 2))), (True, ()), (False, (("b", 1),))))
        # The state of "b" is met ahead of that of "a", which is met behind the moves of state 0 only.
        self.assertEqual(TextSet("aab", "b").table, (
            (False, (("a", 1), ("b", 2))), (False, (("a", 3),)), (True, ()), (False, (("b", 2),))))

    def test_having(self):
        self.assertEqual(TextSet.having("a").table, ((False, ((without("a"), 0), ("a", 1))), all_from(1)))
        self.assertEqual(TextSet.having("ab").table, (
            (False, ((without("a"), 0), ("a", 1))),
            (False, ((without("a", "b"), 0), ("a", 1), ("b", 2))),
            all_from(2)))
        # Letters ascend, so that a newline comes first.
        self.assertEqual(TextSet.having("\n").table, ((False, (("\n", 1), (LETTERS[1:], 0))), all_from(1)))

    def test_all_sets_of_short_texts(self):
        words = words_over("ab", 2)
        for chosen in itertools.product((False, True), repeat=len(words)):
            told = [word for word, is_in in zip(words, chosen) if is_in]
            self.assert_set(TextSet(*told), told, words_over("abc", 3))

    def test_tables_of_random_sets(self):
        chance = random.Random(4)
        words = words_over("abc", 5)
        for _ in range(200):
            table = random_table(chance, "abc")
            texts = TextSet.of_table(table)
            self.assert_set(texts, [word for word in words if leads_to(table, word)], words)
            self.assertEqual(TextSet.of_table(texts.table).table, texts.table)


class MakingTest(SetsTest):
    def test_texts(self):
        texts = TextSet("one", "two", "", "one", "on")
        self.assert_set(texts, ["one", "two", "", "on"], ["one", "two", "", "on", "o", "ones", "tw", "xtwo"])
        self.assertEqual(TextSet("a", "b"), TextSet("b", "a", "b"))
        given = ["a", "b"]
        texts = TextSet(*given)
        given.pop()
        self.assertEqual(texts, TextSet("a", "b"))

    def test_long_texts(self):
        texts = TextSet("ab" * 1000, "ab" * 1000 + "c")
        self.assertEqual((texts.size, len(texts.table)), (2, 2002))
        self.assertIn("ab" * 1000, texts)
        self.assertNotIn("ab" * 999, texts)

    def test_no_text(self):
        for value in NO_STRINGS + NO_TEXTS:
            for ahead in range(3):
                self.assertIs(raised(self, InvalidText, TextSet, *["a"] * ahead, value, None, 0).value, value)
                self.assertIs(raised(self, InvalidText, TextSet, value, *["a"] * ahead).value, value)

    def test_every(self):
        for text in words_over("a\n~", 3) + [LETTERS]:
            self.assertIn(text, TextSet.every())

    def test_having_beside_places(self):
        # Also words that overlap themselves [10].
        for word in words_over("ab", 4)[1:] + ["aaaaa", "ababab", "abaab", "aabaaab", "abcabcab", "abacaba"]:
            texts = TextSet.having(word)
            words = words_over("ab", 7) + words_over("abc", 5)
            self.assert_set(texts, [text for text in words if begins_at(text, word)], words)
            self.assertEqual(len(texts.table), len(word) + 1)
        self.assertEqual(TextSet.having(word="ab"), TextSet.having("ab"))

    def test_having_long_words(self):
        for word in ("a" * 200, "ab" * 100, LETTERS):
            self.assertEqual(len(TextSet.having(word).table), len(word) + 1)
            self.assertEqual(TextSet.having(word).least, word)
            self.assertIn(word[:-1] + word, TextSet.having(word))

    def test_of_table(self):
        # States that are alike, that are not reached, and that lead nowhere; moves in any order.
        table = (
            (False, (("b", 1), ("a", 2), ("c", 3), ("de", 5))),
            (True, (("c", 3),)),
            (True, ()),
            (False, (("ab", 3),)),
            (True, (("a", 0),)),
            (False, ()),
        )
        self.assertEqual(TextSet.of_table(table).table, ((False, (("ab", 1),)), (True, ())))
        self.assertEqual(TextSet.of_table(table=table), TextSet("a", "b"))
        # A set without texts, though with states that lead to True.
        self.assertEqual(TextSet.of_table(((False, (("a", 0),)), (True, ()))).table, NONE)
        self.assertEqual(TextSet.of_table(((False, (("ab", 1),)), (False, (("c", 0),)))), TextSet())
        # Equal states that make a cycle.
        table = ((True, (("a", 1),)), (True, (("a", 2),)), (True, (("a", 0),)))
        self.assertEqual(TextSet.of_table(table).table, ((True, (("a", 0),)),))
        # All texts, told by two strings.
        table = ((True, ((LETTERS[50:], 1), (LETTERS[:50], 0))), (True, ((LETTERS, 1),)))
        self.assertEqual(TextSet.of_table(table).table, ALL)

    def test_of_table_with_most_states(self):
        for number in (1, 2, 59, 60):
            table = tuple((state == number - 1, (("a", state + 1),) * (state < number - 1)) for state in range(number))
            self.assertEqual(TextSet.of_table(table), TextSet("a" * (number - 1)))
        table = tuple((True, ()) for _ in range(61))
        self.assertEqual(raised(self, InvalidTable, TextSet.of_table, table).value, table)

    def test_no_table(self):
        good = (True, (("a", 0),))
        wrong_states = [
            None, True, 0, "", "ab", [], [True, ()], (), (True,), (True, (), ()), (1, ()), (0, ()), (None, ()),
            ("a", ()), (True, []), (True, None), (True, "a"), (True, {}), (True, (("a", 0), None)),
            (True, (["a", 0],)), (True, (("a",),)), (True, (("a", 0, 0),)), (True, ("a", 0)), (True, ((0, "a"),)),
            (True, (("", 0),)), (True, (("ba", 0),)), (True, (("aa", 0),)), (True, (("abb", 0),)),
            (True, ((None, 0),)), (True, ((("a",), 0),)), (True, ((["a"], 0),)), (True, (("a\t", 0),)),
            (True, (("%", 0),)), (True, (("$%&", 0),)), (True, (("a", None),)), (True, (("a", "0"),)),
            (True, (("a", True),)), (True, (("a", False),)), (True, (("a", -1),)), (True, (("a", 2),)),
            (True, (("a", 10 ** 59),)), (True, (("a", 0), ("a", 1))), (True, (("ab", 0), ("bc", 0))),
            (True, (("a", 0), ("b", 0), ("a", 0))), {True: ()},
        ]
        for state in wrong_states:
            for table in ((state, good), (good, state)):
                self.assertIs(raised(self, InvalidTable, TextSet.of_table, table).value, table)
        for value in NO_STRINGS + NO_TEXTS + ["", "a", [good], good, ((good,),), {0: good}, TextSet()]:
            self.assertIs(raised(self, InvalidTable, TextSet.of_table, value).value, value)


class OperatorsTest(SetsTest):
    def test_random_sets(self):
        chance = random.Random(5)
        words = words_over("abc", 5)
        for _ in range(120):
            tables = random_table(chance, "abc"), random_table(chance, "abc")
            one, other = [TextSet.of_table(table) for table in tables]
            ones, others = [{word for word in words if leads_to(table, word)} for table in tables]
            self.assert_set(one | other, ones | others, words)
            self.assert_set(one & other, ones & others, words)
            self.assert_set(one - other, ones - others, words)
            self.assertIs((one - other) | (one & other) == one, True)
            self.assertIs(one.is_within(other), not one - other)
            self.assertIs(one.is_within(one | other), True)
            self.assertIs((one & other).is_within(other), True)
            self.assertIs(bool(one - other), one.is_within(other) is False)

    def test_with_all_and_none(self):
        some = TextSet.having("ab")
        self.assertEqual(some | TextSet(), some)
        self.assertEqual(some & TextSet.every(), some)
        self.assertEqual(some - TextSet.every(), TextSet())
        self.assertEqual(TextSet.every() - (TextSet.every() - some), some)
        self.assertEqual((some | (TextSet.every() - some)).table, ALL)
        self.assertEqual((some & (TextSet.every() - some)).table, NONE)

    def test_arguments_are_not_changed(self):
        one, other = TextSet("a", "b"), TextSet("b", "c")
        tables = one.table, other.table
        told = [one | other, one & other, one - other, one == other, one.is_within(other), one.difference(other)]
        self.assertEqual(told[:3], [TextSet("a", "b", "c"), TextSet("b"), TextSet("a")])
        self.assertEqual((one.table, other.table), tables)

    def test_equal(self):
        self.assertIs(TextSet("a") == TextSet("a"), True)
        self.assertIs(TextSet("a") != TextSet("a"), False)
        self.assertIs(TextSet("a") == TextSet("b"), False)
        self.assertIs(TextSet("a") != TextSet("b"), True)
        for value in NO_STRINGS + ["", "a", ["a"], ("a",), {"a"}, TextSet("a").table]:
            self.assertIs(TextSet("a") == value, False)
            self.assertIs(value == TextSet("a"), False)

    def test_in_for_any_value(self):
        for value in NO_STRINGS + NO_TEXTS + [TextSet(), TextSet.every()]:
            self.assertIs(value in TextSet.every(), False)
            self.assertIs(value in TextSet("a", ""), False)

    def test_bool(self):
        self.assertIs(bool(TextSet()), False)
        self.assertIs(bool(TextSet("")), True)
        self.assertIs(bool(TextSet("a") - TextSet("a")), False)
        self.assertIs(bool(TextSet.every()), True)

    def test_is_within(self):
        self.assertIs(TextSet("ab").is_within(TextSet.having("a")), True)
        self.assertIs(TextSet("ab", "b").is_within(other=TextSet.having("a")), False)
        self.assertIs(TextSet().is_within(TextSet()), True)
        self.assertIs(TextSet.having("ab").is_within(TextSet.having("a")), True)
        self.assertIs(TextSet.having("a").is_within(TextSet.having("ab")), False)


class PropertiesTest(SetsTest):
    def test_size(self):
        for texts, size in (
                (TextSet(), 0), (TextSet(""), 1), (TextSet("a", "b", "ab", "a"), 3), (TextSet.every(), None),
                (TextSet.having("a"), None), (TextSet("a") & TextSet.having("a"), 1),
                (TextSet(*words_over("abc", 4)), 121), (TextSet("ab") | TextSet.having("abab"), None)):
            self.assertEqual(texts.size, size)
            self.assertIn(type(texts.size), (int, type(None)))

    def test_size_with_many_texts(self):
        table = tuple((True, ((LETTERS, state + 1),) * (state < 59)) for state in range(60))
        self.assertEqual(TextSet.of_table(table).size, sum(95 ** number for number in range(60)))

    def test_size_with_a_cycle_that_leads_nowhere(self):
        table = ((False, (("a", 1), ("b", 2), ("c", 3))), (False, (("a", 1),)), (True, ()), (True, (("x", 1),)))
        self.assertEqual(TextSet.of_table(table).size, 2)

    def test_size_of_random_sets(self):
        chance = random.Random(6)
        for _ in range(200):
            table = random_table(chance, "ab")
            texts = TextSet.of_table(table)
            # A text with as many letters as states has a cycle, and one with at most twice as many is there then.
            some = [word for word in words_over("ab", 2 * len(table) - 1) if leads_to(table, word)]
            endless = any(len(word) >= len(table) for word in some)
            self.assertEqual(texts.size, None if endless else len(some))

    def test_least(self):
        self.assertIsNone(TextSet().least)
        self.assertEqual(TextSet.every().least, "")
        self.assertEqual(TextSet("ba", "ab", "abc").least, "ab")
        self.assertEqual(TextSet("b", "aa").least, "b")
        self.assertEqual((TextSet.every() - TextSet("")).least, "\n")
        self.assertEqual((TextSet.every() - TextSet("", "\n")).least, " ")
        self.assertEqual((TextSet.having("b") & TextSet.having("ab") & TextSet.having("c")).least, "abc")
        self.assertEqual((TextSet.having("ba") & TextSet.having("ab")).least, "aba")

    def test_least_of_random_sets(self):
        chance = random.Random(7)
        words = by_number(words_over("abc", 5))
        for _ in range(200):
            table = random_table(chance, "abc")
            told = [word for word in words if leads_to(table, word)]
            self.assertEqual(TextSet.of_table(table).least, told[0] if told else None)

    def test_letters(self):
        self.assertEqual(TextSet().letters, "")
        self.assertEqual(TextSet("").letters, "")
        self.assertEqual(TextSet("ba", "\nca").letters, "\nabc")
        self.assertEqual(TextSet.every().letters, LETTERS)
        self.assertEqual(TextSet.of_table(((True, (("ab", 0), ("c", 1))), (False, (("d", 1),)))).letters, "ab")


class CountTest(SetsTest):
    def test_random_sets(self):
        chance = random.Random(8)
        words = words_over("abc", 5)
        for _ in range(100):
            table = random_table(chance, "abc")
            texts = TextSet.of_table(table)
            for letters in ("", "a", "b", "ca", "bca", "xb", LETTERS):
                for number in range(6):
                    told = [word for word in words
                            if len(word) == number and set(word) <= set(letters) and leads_to(table, word)]
                    self.assertEqual(texts.count(number, letters), len(told))

    def test_large_numbers(self):
        self.assertEqual(TextSet.every().count(200, LETTERS), 95 ** 200)
        self.assertEqual(TextSet.every().count(number=200, letters="ab"), 2 ** 200)
        self.assertEqual(TextSet.having("a").count(200, "abc"), 3 ** 200 - 2 ** 200)
        self.assertEqual(TextSet.every().count(0, ""), 1)
        self.assertEqual(TextSet.every().count(1, ""), 0)
        self.assertIs(type(TextSet().count(0, "")), int)

    def test_no_count(self):
        for value in NO_STRINGS + ["", "1", -1, 201, 10 ** 59, -10 ** 59]:
            if type(value) is int and 0 <= value <= 200:
                continue
            self.assertIs(raised(self, InvalidCount, TextSet.every().count, value, "ab").value, value)
            self.assertIs(raised(self, InvalidCount, TextSet().count, value, "").value, value)


class OrderedTest(SetsTest):
    def test_sets_with_an_end(self):
        self.assertEqual(list(TextSet().ordered("ab")), [])
        self.assertEqual(list(TextSet("").ordered("")), [""])
        self.assertEqual(list(TextSet("", "b", "ab", "aa", "c", "ac").ordered("ba")), ["", "b", "aa", "ab"])
        self.assertEqual(list(TextSet("", "b", "ab", "aa", "c", "ac").ordered(letters="c")), ["", "c"])
        # The set has no end, but its texts of these letters have.
        self.assertEqual(list((TextSet.having("x") | TextSet("a", "ab")).ordered("ab")), ["a", "ab"])
        self.assertEqual(list(TextSet.having("x").ordered("ab")), [])
        self.assertEqual(list(TextSet.every().ordered("")), [""])

    def test_gaps_between_the_numbers_of_letters(self):
        self.assertEqual(list(TextSet("a", "a" * 50, "b" * 300).ordered("ab")), ["a", "a" * 50, "b" * 300])
        thirds = TextSet.of_table(((True, (("a", 1),)), (False, (("a", 2),)), (False, (("a", 0),))))
        self.assertEqual(list(itertools.islice(thirds.ordered("ab"), 4)), ["", "aaa", "aaaaaa", "a" * 9])

    def test_without_end(self):
        self.assertEqual(list(itertools.islice(TextSet.every().ordered("b\na"), 8)),
                         ["", "\n", "a", "b", "\n\n", "\na", "\nb", "a\n"])
        told = itertools.islice(TextSet.having("ba").ordered("cab"), 300)
        words = [word for word in by_number(words_over("abc", 6)) if "ba" in word]
        self.assertEqual(list(told), words[:300])

    def test_random_sets(self):
        chance = random.Random(9)
        words = by_number(words_over("abc", 5))
        for _ in range(100):
            table = random_table(chance, "abc")
            for letters in ("cb", "bac", "xa"):
                told = [word for word in words if leads_to(table, word) and set(word) <= set(letters)]
                texts = TextSet.of_table(table)
                self.assertEqual(list(itertools.islice(texts.ordered(letters), len(told))), told)
                if texts.size is not None:
                    self.assertEqual(list(texts.ordered(letters)), told)

    def test_two_generators_side_by_side(self):
        texts = TextSet.having("a")
        one, other = texts.ordered("ab"), texts.ordered("ac")
        told = [(next(one), next(other)) for _ in range(5)]
        self.assertEqual(told, [("a", "a"), ("aa", "aa"), ("ab", "ac"), ("ba", "ca"), ("aaa", "aaa")])
        again = texts.ordered("ab")
        self.assertEqual([next(again), next(one), next(again)], ["a", "aab", "aa"])


class DifferenceTest(SetsTest):
    def test_both_ways_about(self):
        for one, other, told in (
                (TextSet("a", "b"), TextSet("a", "c"), (0, "b")), (TextSet("a"), TextSet("a", ""), (1, "")),
                (TextSet(), TextSet.every(), (1, "")), (TextSet.having("ab"), TextSet.having("ba"), (0, "ab")),
                (TextSet("ab"), TextSet("b"), (1, "b")), (TextSet("ba"), TextSet("ab"), (1, "ab")),
                (TextSet.every() - TextSet("a~"), TextSet.every(), (1, "a~"))):
            self.assertEqual(one.difference(other), told)
            self.assertEqual(other.difference(other=one), (1 - told[0], told[1]))
            self.assertIs(type(one.difference(other)), tuple)
            self.assertIs(type(one.difference(other)[0]), int)

    def test_equal_sets(self):
        for texts in (TextSet(), TextSet.every(), TextSet("a", "b")):
            self.assertIsNone(texts.difference(texts | TextSet()))

    def test_random_sets(self):
        chance = random.Random(10)
        words = by_number(words_over("ab", 9))
        for _ in range(200):
            tables = random_table(chance, "ab"), random_table(chance, "ab")
            told = [word for word in words if leads_to(tables[0], word) != leads_to(tables[1], word)]
            one, other = [TextSet.of_table(table) for table in tables]
            if told:
                self.assertEqual(one.difference(other), (int(leads_to(tables[1], told[0])), told[0]))
            else:
                # Two tables with 5 states each are parted by a text of at most 9 letters, if by any.
                self.assertIsNone(one.difference(other))
                self.assertEqual(one, other)


if __name__ == "__main__":
    unittest.main()
