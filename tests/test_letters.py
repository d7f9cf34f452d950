import unittest

from anchoredits import letters
from anchoredits.letters import is_text

from samples import LETTERS, NO_STRINGS, NO_TEXTS


class LettersTest(unittest.TestCase):
    def test_letters(self):
        self.assertEqual(len(letters.LETTERS), 95)
        self.assertEqual(letters.LETTERS, LETTERS)
        self.assertEqual("".join(sorted(letters.LETTERS)), LETTERS)

    def test_every_character(self):
        for code in range(0x500):
            self.assertIs(is_text(chr(code)), chr(code) in LETTERS, code)

    def test_texts(self):
        for text in ["", "a", "\n", " ", "~", "one\ntwo ~", LETTERS, LETTERS * 50]:
            self.assertIs(is_text(text), True, text)

    def test_no_texts(self):
        for value in NO_TEXTS + NO_STRINGS + [LETTERS + "%" + LETTERS]:
            self.assertIs(is_text(value), False, value)


if __name__ == "__main__":
    unittest.main()
