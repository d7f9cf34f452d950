import unittest

from anchoredits.edits import places

from samples import LETTERS, words_over


class PlacesTest(unittest.TestCase):
    def assert_places(self, text, word, found):
        told = places(text, word)
        self.assertEqual(told, found)
        self.assertIs(type(told), list)
        for place in told:
            self.assertIs(type(place), int)

    def test_ordinary(self):
        self.assert_places("one two two", "two", [4, 8])
        self.assert_places("one two two", "one", [0])
        self.assert_places("one two two", "three", [])
        self.assertEqual(places(text="one two two", word="two"), [4, 8])
        self.assertEqual(places(word="two", text="one two two"), [4, 8])
        self.assertEqual(places("one two two", word="two"), [4, 8])

    def test_overlapping(self):
        self.assert_places("aaa", "aa", [0, 1])
        self.assert_places("aaaa", "aa", [0, 1, 2])
        self.assert_places("ababa", "aba", [0, 2])
        self.assert_places("abababab", "abab", [0, 2, 4])
        self.assert_places("a" * 1000, "a" * 998, [0, 1, 2])

    def test_both_ends(self):
        self.assert_places("abcab", "ab", [0, 3])
        self.assert_places("ab", "ab", [0])
        self.assert_places("a", "a", [0])

    def test_no_place(self):
        self.assert_places("", "a", [])
        self.assert_places("a", "aa", [])
        self.assert_places("ab", "abc", [])
        self.assert_places("ab", "ba", [])
        self.assert_places("AB", "ab", [])

    def test_every_letter(self):
        for place, letter in enumerate(LETTERS):
            self.assert_places(LETTERS, letter, [place])

    def test_special_letters(self):
        self.assert_places("\n\n \n", "\n", [0, 1, 3])
        self.assert_places("~ ~ ~", "~ ~", [0, 2])
        self.assert_places("a.b*c", ".", [1])
        self.assert_places("a\\nb\n", "\\n", [1])

    def test_long_words(self):
        word = "ab" * 30
        self.assert_places(word + word, word, list(range(0, 61, 2)))

    def test_all_small_texts(self):
        for text in words_over("ab", 6):
            for word in words_over("ab", 4)[1:]:
                told = [place for place in range(len(text)) if text[place:place + len(word)] == word]
                self.assert_places(text, word, told)

    def test_new_list_each_time(self):
        found = places("aaa", "a")
        found.append(7)
        self.assertEqual(places("aaa", "a"), [0, 1, 2])
        self.assertIsNot(places("aaa", "a"), places("aaa", "a"))
        none = places("aaa", "b")
        none.append(7)
        self.assertEqual(places("aaa", "b"), [])


if __name__ == "__main__":
    unittest.main()
