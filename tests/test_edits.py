import copy
import unittest

from anchoredits.edits import AtOnce, Edit, Every, First, Once, Perhaps
from anchoredits.errors import InvalidNew, InvalidOld, InvalidPart, TooMany

from samples import LETTERS, NO_STRINGS, NO_TEXTS

PAIR_KINDS = [Once, First, Perhaps, Every]
KINDS = PAIR_KINDS + [AtOnce]

OLDS = ["a", "ab", "\n", " ", "~", "a\n b~", "a" * 39, "a" * 40, LETTERS[:40], LETTERS[-40:]]
NEWS = OLDS + [""]
TOO_LONG = ["a" * 41, "\n" * 41, LETTERS, "a" * 1000]
NO_NEWS = NO_STRINGS + NO_TEXTS + TOO_LONG + ["a" * 40 + "%", "a" * 41 + "\t"]
NO_OLDS = NO_NEWS + [""]

GOOD_PARTS = [("a", "b"), ("b", ""), ("c", "d")]


class EditsTest(unittest.TestCase):
    def raised(self, error, kind, *args, **names):
        """The error of this very class that a call raises."""
        with self.assertRaises(error) as caught:
            kind(*args, **names)
        self.assertIs(type(caught.exception), error)
        return caught.exception


class ClassesTest(EditsTest):
    def test_subclasses_of_edit_alone(self):
        for kind in KINDS:
            self.assertTrue(issubclass(kind, Edit))
            for other in KINDS:
                self.assertIs(issubclass(kind, other), kind is other)

    def test_objects_are_edits(self):
        for kind in PAIR_KINDS:
            self.assertIsInstance(kind("a", "b"), Edit)
        self.assertIsInstance(AtOnce(), Edit)

    def test_most(self):
        self.assertIs(type(Edit.MOST), int)
        self.assertEqual(Edit.MOST, 40)
        for kind in KINDS:
            self.assertEqual(kind.MOST, 40)
        self.assertEqual(Once("a", "b").MOST, 40)


class PairTest(EditsTest):
    """Once, First, Perhaps and Every."""

    def test_properties(self):
        for kind in PAIR_KINDS:
            for old in OLDS:
                for new in NEWS:
                    for edit in (kind(old, new), kind(old=old, new=new), kind(new=new, old=old), kind(old, new=new)):
                        self.assertEqual((edit.old, edit.new), (old, new))
                        self.assertIs(type(edit.old), str)
                        self.assertIs(type(edit.new), str)

    def test_every_letter(self):
        for kind in PAIR_KINDS:
            for letter in LETTERS:
                edit = kind(letter, letter)
                self.assertEqual((edit.old, edit.new), (letter, letter))

    def test_wrong_old(self):
        for kind in PAIR_KINDS:
            for value in NO_OLDS:
                before = copy.deepcopy(value)
                self.assertIs(self.raised(InvalidOld, kind, value, "b").value, value)
                self.assertIs(self.raised(InvalidOld, kind, old=value, new="b").value, value)
                self.assertEqual(value, before)

    def test_wrong_new(self):
        for kind in PAIR_KINDS:
            for value in NO_NEWS:
                before = copy.deepcopy(value)
                self.assertIs(self.raised(InvalidNew, kind, "a", value).value, value)
                self.assertIs(self.raised(InvalidNew, kind, new=value, old="a").value, value)
                self.assertEqual(value, before)

    def test_wrong_old_ahead_of_wrong_new(self):
        for kind in PAIR_KINDS:
            self.assertEqual(self.raised(InvalidOld, kind, "", "a" * 41).value, "")
            self.assertEqual(self.raised(InvalidOld, kind, 1, 2).value, 1)
            self.assertEqual(self.raised(InvalidOld, kind, new=2, old=1).value, 1)
            self.assertEqual(self.raised(InvalidOld, kind, "%", None).value, "%")

    def test_equal(self):
        for kind in PAIR_KINDS:
            self.assertIs(kind("a", "b") == kind(new="b", old="a"), True)
            self.assertIs(kind("a", "b") != kind("a", "b"), False)
            self.assertIs(kind("a", "") == kind("a", ""), True)

    def test_unequal_properties(self):
        for kind in PAIR_KINDS:
            for old, new in (("a", "c"), ("c", "b"), ("b", "a"), ("a", ""), ("A", "b"), ("ab", "b"), ("a", "bb")):
                self.assertIs(kind("a", "b") == kind(old, new), False)
                self.assertIs(kind("a", "b") != kind(old, new), True)

    def test_unlike_classes(self):
        for kind in PAIR_KINDS:
            for other in PAIR_KINDS:
                if kind is not other:
                    self.assertIs(kind("a", "b") == other("a", "b"), False)
                    self.assertIs(kind("a", "b") != other("a", "b"), True)

    def test_values_of_other_kinds(self):
        for kind in PAIR_KINDS:
            edit = kind("a", "b")
            for value in NO_STRINGS + ["a", "b", "ab", edit.old, (edit,), [edit], kind, InvalidOld("a")]:
                self.assertIs(edit == value, False)
                self.assertIs(value == edit, False)
                self.assertIs(edit != value, True)


class AtOnceTest(EditsTest):
    def assert_parts(self, edit, parts):
        self.assertEqual(edit.parts, parts)
        self.assertIs(type(edit.parts), tuple)
        for part in edit.parts:
            self.assertIs(type(part), tuple)

    def test_parts(self):
        for many in range(4):
            self.assert_parts(AtOnce(*GOOD_PARTS[:many]), tuple(GOOD_PARTS[:many]))

    def test_without_parts(self):
        self.assert_parts(AtOnce(), ())

    def test_words_of_every_length(self):
        for old in OLDS:
            for new in NEWS:
                self.assert_parts(AtOnce((old, new)), ((old, new),))

    def test_given_list_is_copied(self):
        given = list(GOOD_PARTS)
        edit = AtOnce(*given)
        given[0] = ("x", "y")
        given.pop()
        self.assert_parts(edit, tuple(GOOD_PARTS))

    def test_equal_news_are_allowed(self):
        self.assert_parts(AtOnce(("a", "b"), ("b", "b"), ("c", "b")), (("a", "b"), ("b", "b"), ("c", "b")))

    def test_an_old_within_another_old_is_allowed(self):
        self.assert_parts(AtOnce(("a", ""), ("aa", ""), ("ba", "")), (("a", ""), ("aa", ""), ("ba", "")))

    def test_a_new_that_is_an_old_is_allowed(self):
        self.assert_parts(AtOnce(("a", "a"), ("b", "a")), (("a", "a"), ("b", "a")))

    def wrong_parts(self):
        for value in NO_STRINGS:
            # Of these values, this one alone is a part.
            if value != ("a", "b"):
                yield value
        yield from ["", "a", "ab", "abc"]
        yield from [("a", "b", "c"), ("a",), (), ["a", "b"], [("a", "b")], (("a", "b"),), {"a": "b", "c": "d"}]
        for word in NO_OLDS:
            yield (word, "b")
            yield [word, "b"]
        for word in NO_NEWS:
            yield ("a", word)
        yield ("", "a" * 41)

    def test_wrong_part(self):
        for value in self.wrong_parts():
            before = copy.deepcopy(value)
            for many in range(4):
                index = self.raised(InvalidPart, AtOnce, *GOOD_PARTS[:many], value).index
                self.assertEqual(index, many)
                self.assertIs(type(index), int)
            self.assertEqual(value, before)

    def test_first_wrong_part(self):
        self.assertEqual(self.raised(InvalidPart, AtOnce, None, ("a", "b"), ["a", "b"]).index, 0)
        self.assertEqual(self.raised(InvalidPart, AtOnce, ("a", "b"), None, ("a", "b")).index, 1)
        self.assertEqual(self.raised(InvalidPart, AtOnce, ("a", "b"), ("a", "b"), None).index, 1)

    def test_old_that_is_there_already(self):
        self.assertEqual(self.raised(InvalidPart, AtOnce, ("a", "b"), ("a", "b")).index, 1)
        self.assertEqual(self.raised(InvalidPart, AtOnce, ("a", "b"), ("a", "c")).index, 1)
        self.assertEqual(self.raised(InvalidPart, AtOnce, ("a", "b"), ("b", "c"), ("a", "d")).index, 2)
        self.assertEqual(self.raised(InvalidPart, AtOnce, ("a", "b"), ("b", "c"), ("b", "d")).index, 2)
        self.assertEqual(self.raised(InvalidPart, AtOnce, *GOOD_PARTS, ("c", "d")).index, 3)

    def test_too_many(self):
        four = GOOD_PARTS + [("d", "e")]
        limit = self.raised(TooMany, AtOnce, *four).limit
        self.assertEqual(limit, 3)
        self.assertIs(type(limit), int)
        self.assertEqual(self.raised(TooMany, AtOnce, *[(letter, "") for letter in LETTERS]).limit, 3)

    def test_wrong_part_ahead_of_too_many(self):
        four = GOOD_PARTS + [("d", "e")]
        for index in range(5):
            parts = four[:index] + [("", "x")] + four[index:]
            self.assertEqual(self.raised(InvalidPart, AtOnce, *parts).index, index)
        self.assertEqual(self.raised(InvalidPart, AtOnce, *four, ("d", "x")).index, 4)

    def test_equal(self):
        for many in range(4):
            self.assertIs(AtOnce(*GOOD_PARTS[:many]) == AtOnce(*GOOD_PARTS[:many]), True)
            self.assertIs(AtOnce(*GOOD_PARTS[:many]) != AtOnce(*GOOD_PARTS[:many]), False)

    def test_unequal(self):
        edit = AtOnce(("a", "b"), ("c", "d"))
        for parts in ((), (("a", "b"),), (("c", "d"), ("a", "b")), (("a", "b"), ("c", "")), (("a", "b"), ("d", "d")),
                      (("a", "b"), ("c", "d"), ("e", "f"))):
            self.assertIs(edit == AtOnce(*parts), False)
            self.assertIs(edit != AtOnce(*parts), True)

    def test_unlike_classes(self):
        for kind in PAIR_KINDS:
            self.assertIs(AtOnce(("a", "b")) == kind("a", "b"), False)
            self.assertIs(kind("a", "b") == AtOnce(("a", "b")), False)
            self.assertIs(AtOnce() == kind("a", "b"), False)

    def test_values_of_other_kinds(self):
        for edit in (AtOnce(), AtOnce(("a", "b"))):
            for value in NO_STRINGS + ["", edit.parts, list(edit.parts), (edit,), AtOnce]:
                self.assertIs(edit == value, False)
                self.assertIs(value == edit, False)
                self.assertIs(edit != value, True)


if __name__ == "__main__":
    unittest.main()
