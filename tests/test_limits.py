import unittest

from anchoredits import limits
from anchoredits.edits import Edit

LIMITS = {
    "MAX_WORD": 40,
    "MAX_EDITS": 4,
    "MAX_PARTS": 3,
    "MAX_OLDS": 8,
    "MAX_NEWS": 12,
    "MAX_RUNS": 20,
    "MAX_TIMES": 1000000000000000000000000000000,
    "MAX_FILES": 8,
    "MAX_HANDS": 4,
}


class LimitsTest(unittest.TestCase):
    def test_every_limit(self):
        for name, number in LIMITS.items():
            with self.subTest(name):
                limit = getattr(limits, name)
                self.assertIs(type(limit), int)
                self.assertEqual(limit, number)

    def test_no_other_limit(self):
        told = [name for name in vars(limits) if name.startswith("MAX_")]
        self.assertEqual(sorted(told), sorted(LIMITS))

    def test_most_letters_of_an_edit(self):
        self.assertEqual(limits.MAX_WORD, Edit.MOST)


if __name__ == "__main__":
    unittest.main()
