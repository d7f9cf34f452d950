import random
import unittest

from anchoredits.errors import InvalidChange
from anchoredits.misses import changed, changes, distance, far_paper, is_far_paper, nearest

from samples import LETTERS, NO_LETTERS, NO_STRINGS, NO_TEXTS, raised, words_over


def naive_table(one, other):
    """The distances of all beginnings of one from all beginnings of other."""
    table = [list(range(len(other) + 1))]
    for i in range(1, len(one) + 1):
        table.append([i])
        for j in range(1, len(other) + 1):
            table[i].append(min(table[i][j - 1] + 1, table[i - 1][j] + 1,
                                table[i - 1][j - 1] + (one[i - 1] != other[j - 1])))
    return table


def naive_distance(one, other):
    return naive_table(one, other)[-1][-1]


def random_text(chance, letters, most):
    return "".join(chance.choice(letters) for _ in range(chance.randint(0, most)))


class ChangedTest(unittest.TestCase):
    def test_each_kind_at_both_ends_and_within(self):
        for change, told in (
                (("put", 0, "x"), "xabc"), (("put", 1, "x"), "axbc"), (("put", 3, "x"), "abcx"), (("put", 2, "b"), "abbc"),
                (("drop", 0), "bc"), (("drop", 1), "ac"), (("drop", 2), "ab"),
                (("set", 0, "x"), "xbc"), (("set", 1, "\n"), "a\nc"), (("set", 2, "a"), "aba")):
            self.assertEqual(changed("abc", [change]), told)
            self.assertEqual(changed(changes=(change,), text="abc"), told)
        self.assertEqual(changed("abc", []), "abc")
        self.assertEqual(changed("", [("put", 0, "a")]), "a")
        self.assertEqual(changed("a", [("drop", 0)]), "")

    def test_one_after_the_other(self):
        self.assertEqual(changed("", [("put", 0, "b"), ("put", 0, "a"), ("put", 2, "c"), ("set", 1, "x"), ("drop", 0)]), "xc")
        # Right only for the text as it is then.
        self.assertEqual(changed("a", [("set", 0, "b"), ("set", 0, "a")]), "a")
        self.assertEqual(changed("a", [("put", 1, "b"), ("drop", 1), ("drop", 0), ("put", 0, "z")]), "z")

    def test_behind_the_ends(self):
        for text in ("", "a", "abc"):
            for change in (("put", -1, "x"), ("put", len(text) + 1, "x"), ("drop", -1), ("drop", len(text)),
                           ("set", -1, "x"), ("set", len(text), "x"), ("put", 10 ** 59, "x"), ("drop", -10 ** 59)):
                self.assertEqual(raised(self, InvalidChange, changed, text, [change]).index, 0)

    def test_letter_set_to_itself(self):
        for index, letter in enumerate("abc"):
            self.assertEqual(raised(self, InvalidChange, changed, "abc", [("set", index, letter)]).index, 0)
        told = raised(self, InvalidChange, changed, "abc", [("set", 0, "b"), ("set", 0, "b")])
        self.assertEqual(told.index, 1)

    def test_no_change(self):
        wrong = NO_STRINGS + NO_TEXTS[:3] + [
            "", "put", ("put",), ("drop",), ("set",), ("put", 0), ("set", 0), ("drop", 0, "a"), ("put", 0, "x", "x"),
            ("drop", 0, 0), ["drop", 0], ["put", 0, "x"], ("Put", 0, "x"), ("cut", 0), ("", 0), (None, 0), (["drop"], 0),
            ("drop", True), ("drop", False), ("put", False, "x"), ("put", True, "x"), ("set", False, "x"),
            ("drop", "0"), ("drop", None), ("drop", (0,)), ("put", 0, ""), ("put", 0, "xy"), ("set", 0, ""), ("set", 0, "xy"),
            ("put", 0, None), ("set", 0, 1), ("put", 0, ("x",)), ("put", 0, ["x"]), (("drop", 0),), {"drop": 0},
        ]
        wrong += [(word, 0, character) for word in ("put", "set") for character in NO_LETTERS]
        for change in wrong:
            self.assertEqual(raised(self, InvalidChange, changed, "abc", [change]).index, 0)
            rights = [("put", 3, "d"), ("drop", 3), ("set", 0, "x"), ("set", 0, "a")]
            self.assertEqual(raised(self, InvalidChange, changed, "abc", [*rights, change, change, *rights]).index, 4)
        for letter in LETTERS:
            self.assertEqual(changed("", [("put", 0, letter)]), letter)

    def test_lists_that_are_handed_in_stay(self):
        rights = [("put", 0, "x"), ("drop", 1), ("set", 0, "y")]
        held = list(rights)
        changed("abc", held)
        self.assertEqual(held, rights)
        held.append(("drop", 9))
        self.assertEqual(raised(self, InvalidChange, changed, "abc", held).index, 3)
        self.assertEqual(held, rights + [("drop", 9)])


class DistanceTest(unittest.TestCase):
    def assert_changes(self, one, other, number):
        told = changes(one, other)
        self.assertIs(type(told), list)
        self.assertEqual(len(told), number)
        self.assertEqual(changed(one, told), other)
        for change in told:
            self.assertIs(type(change), tuple)
            self.assertIs(type(change[1]), int)
        self.assertEqual(distance(one, other), number)
        self.assertIs(type(distance(one, other)), int)

    def test_ordinary(self):
        for one, other, number in (
                ("", "", 0), ("abc", "abc", 0), ("", "abc", 3), ("abc", "", 3), ("abc", "axc", 1), ("abc", "bc", 1),
                ("abc", "zabc", 1), ("kitten", "sitting", 3), ("ab", "ba", 2), ("aaaa", "aa", 2), ("abab", "baba", 2),
                ("abc", "xyz", 3), ("a", "bcde", 4)):
            self.assert_changes(one, other, number)
            self.assert_changes(other, one, number)
        self.assertEqual(distance(other="abc", one="ab"), 1)
        self.assertEqual(changes(other="abc", one="ab"), [("put", 2, "c")])

    def test_beside_a_plain_table_for_all_short_texts(self):
        words = words_over("ab", 5)
        for one in words:
            for other in words:
                self.assert_changes(one, other, naive_distance(one, other))

    def test_beside_a_plain_table(self):
        chance = random.Random(41)
        for _ in range(1500):
            letters = chance.choice(["ab", "abc", "abcdef\n"])
            one, other = random_text(chance, letters, 12), random_text(chance, letters, 12)
            self.assert_changes(one, other, naive_distance(one, other))
            self.assertEqual(distance(one, other), distance(other, one))

    def test_long_texts(self):
        chance = random.Random(42)
        one = "".join(chance.choice("abcdef") for _ in range(4000))
        other = "x" + one[:1000] + one[1001:3000] + "yy" + one[3000:3500] + "z" + one[3501:]
        self.assert_changes(one, other, 5)
        self.assert_changes(other, one, 5)


class NearestTest(unittest.TestCase):
    def naive(self, text, old):
        rows = [(naive_distance(text[begin:end], old), (begin, end))
                for begin in range(len(text)) for end in range(begin + 1, len(text) + 1)]
        least = min((number for number, _ in rows), default=len(old))
        return (least, [window for number, window in rows if number == least])

    def test_examples(self):
        self.assertEqual(nearest("abcabd", "bbd"), (1, [(3, 6), (4, 6)]))

    def test_words_that_stand_there(self):
        self.assertEqual(nearest("abcabd", "ab"), (0, [(0, 2), (3, 5)]))
        self.assertEqual(nearest("aaa", "aa"), (0, [(0, 2), (1, 3)]))
        self.assertEqual(nearest("abc", "abc"), (0, [(0, 3)]))
        self.assertEqual(nearest(old="abcd", text="abc"), (1, [(0, 3)]))

    def test_empty_word_and_empty_text(self):
        self.assertEqual(nearest("", ""), (0, []))
        self.assertEqual(nearest("", "abc"), (3, []))
        self.assertEqual(nearest("abc", ""), (1, [(0, 1), (1, 2), (2, 3)]))

    def test_no_letter_in_common(self):
        self.assertEqual(nearest("xyz", "a"), (1, [(0, 1), (1, 2), (2, 3)]))
        self.assertEqual(nearest("xyz", "ab"), (2, [(0, 1), (0, 2), (1, 2), (1, 3), (2, 3)]))

    def test_beside_all_windows(self):
        chance = random.Random(43)
        cases = [(text, old) for text in words_over("ab", 5) for old in words_over("ab", 3)]
        for _ in range(700):
            letters = chance.choice(["ab", "abc", "abcde"])
            cases.append((random_text(chance, letters, 8), random_text(chance, letters, 6)))
        for text, old in cases:
            told = nearest(text, old)
            self.assertEqual(told, self.naive(text, old))
            self.assertEqual([type(told), type(told[0]), type(told[1])], [tuple, int, list])
            for window in told[1]:
                self.assertEqual([type(window), type(window[0]), type(window[1])], [tuple, int, int])

    def test_changed_answers(self):
        told = nearest("abcabd", "bbd")
        told[1].clear()
        self.assertEqual(nearest("abcabd", "bbd"), (1, [(3, 6), (4, 6)]))
        told = changes("ab", "b")
        told.append(None)
        self.assertEqual(changes("ab", "b"), [("drop", 0)])

    def test_long_text(self):
        text = "ab" * 2000 + "cxd" + "ab" * 2000
        self.assertEqual(nearest(text, "abcdab"), (1, [(3998, 4005)]))


def with_entry(rows, i, j, value):
    """Rows with another entry."""
    return tuple(tuple(value if (row, column) == (i, j) else entry for column, entry in enumerate(entries))
                 for row, entries in enumerate(rows))


class FarPaperTest(unittest.TestCase):
    def is_right(self, one, other, number, rows):
        """Whether rows of integers, of the right numbers, are right by the words of promise 47."""
        if rows[0][0] != 0 or rows[-1][-1] != number:
            return False
        for i in range(len(one) + 1):
            for j in range(len(other) + 1):
                bounds = []
                if j > 0:
                    bounds.append(rows[i][j - 1] + 1)
                if i > 0:
                    bounds.append(rows[i - 1][j] + 1)
                if i > 0 and j > 0:
                    bounds.append(rows[i - 1][j - 1] + (0 if one[i - 1] == other[j - 1] else 1))
                if any(rows[i][j] > bound for bound in bounds):
                    return False
        return True

    def test_told_papers(self):
        chance = random.Random(44)
        for _ in range(400):
            letters = chance.choice(["ab", "abc"])
            one, other = random_text(chance, letters, 6), random_text(chance, letters, 6)
            paper = far_paper(one, other)
            number = naive_distance(one, other)
            self.assertEqual([type(paper), len(paper), paper[0], type(paper[1])], [tuple, 2, "far", tuple])
            for row in paper[1]:
                self.assertEqual({type(entry) for entry in row}, {int})
            self.assertTrue(self.is_right(one, other, number, paper[1]))
            self.assertIs(is_far_paper(one, other, number, paper), True)
            for wrong in (number - 1, number + 1, -number - 1, 10 ** 30):
                self.assertIs(is_far_paper(one, other, wrong, paper), False)

    def test_one_integer_otherwise(self):
        chance = random.Random(45)
        some = 0
        for one, other in [("ab", "ba"), ("abc", "b"), ("", "ab"), ("ab", ""), ("", ""), ("aab", "abb")]:
            number = distance(one, other)
            rows = far_paper(one, other)[1]
            for i in range(len(one) + 1):
                for j in range(len(other) + 1):
                    for value in (-1, 0, 1, 2, 3, 4, -10 ** 30, rows[i][j] - 1, rows[i][j] + 1):
                        others = with_entry(rows, i, j, value)
                        right = self.is_right(one, other, number, others)
                        some += right and others != rows
                        self.assertIs(is_far_paper(one, other, number, ("far", others)), right)
                    for value in (True, False, None, "1", (1,), [1], 1.0):
                        self.assertIs(is_far_paper(one, other, number, ("far", with_entry(rows, i, j, value))), False)
        self.assertGreater(some, 10)
        for least in (0, -4):
            for _ in range(2000):
                rows = tuple(tuple(chance.randint(least, 2) for _ in range(3)) for _ in range(3))
                rows = ((0,) + rows[0][1:], *rows[1:])
                number = rows[2][2]
                self.assertIs(is_far_paper("ab", "bb", number, ("far", rows)), self.is_right("ab", "bb", number, rows))

    def test_lesser_numbers(self):
        # A paper may show less than the distance.
        self.assertIs(is_far_paper("ab", "cd", 0, ("far", ((0, 0, 0), (0, 0, 0), (0, 0, 0)))), True)
        self.assertIs(is_far_paper("ab", "cd", 1, ("far", ((0, 0, 0), (0, 0, 0), (0, 0, 1)))), True)
        self.assertIs(is_far_paper("ab", "cd", -3, ("far", ((0, 0, 0), (0, 0, 0), (0, 0, -3)))), True)
        self.assertIs(is_far_paper("ab", "cb", 2, ("far", ((0, 1, 2), (1, 1, 2), (2, 2, 2)))), False)

    def test_other_forms(self):
        one, other = "abc", "bd"
        number = distance(one, other)
        rows = far_paper(one, other)[1]
        self.assertTrue(is_far_paper(one=one, other=other, number=number, value=("far", rows)))
        wrong = NO_STRINGS + ["", "far", rows, ("far",), ("far", rows, rows), ["far", rows], ("near", rows), (rows, "far"),
                              (None, rows), ("far", None), ("far", list(rows)), ("far", tuple(map(list, rows))),
                              ("far", rows[:-1]), ("far", rows + rows[-1:]), ("far", ()), ("far", ((),)),
                              ("far", tuple(row[:-1] for row in rows)), ("far", tuple(row + row[-1:] for row in rows)),
                              ("far", rows[:1] + (rows[1] + (2,),) + rows[2:]), ("far", rows[:-1] + (None,)),
                              ("far", "abcd"), ("far", ("abc",) * 4), (("far", rows),), ("FAR", rows)]
        for value in wrong:
            self.assertIs(is_far_paper(one, other, number, value), False)


if __name__ == "__main__":
    unittest.main()
