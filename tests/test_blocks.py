import random
import unittest

from anchoredits.blocks import blocks_of, classes_of, grouped, leading, numbers_from_first

from samples import LETTERS


def alike(keys, arrows):
    """For each state a number, equal for states that no sequence of labels tells apart."""
    numbers = [keys.index(key) for key in keys]
    for _ in keys:
        rows = [(numbers[state], sorted((label, numbers[target]) for source, label, target in arrows if source == state))
                for state in range(len(keys))]
        numbers = [rows.index(row) for row in rows]
    return numbers


class BlocksTest(unittest.TestCase):
    def assert_blocks(self, keys, arrows):
        told, wanted = blocks_of(keys, arrows), alike(keys, arrows)
        self.assertEqual(len(set(zip(told, wanted))), len(set(told)))
        self.assertEqual(len(set(zip(told, wanted))), len(set(wanted)))

    def test_random_states(self):
        chance = random.Random(29)
        for _ in range(600):
            number, labels = chance.randint(1, 14), chance.randint(1, 3)
            keys = [chance.randrange(2) if chance.random() < 0.3 else 0 for _ in range(number)]
            arrows = [(state, label, chance.randrange(number)) for state in range(number) for label in range(labels)]
            chance.shuffle(arrows)
            self.assert_blocks(keys, arrows)

    def test_states_with_few_arrows(self):
        chance = random.Random(30)
        for _ in range(600):
            number = chance.randint(1, 14)
            rows = [[label for label in range(3) if chance.random() < 0.6] for _ in range(number)]
            arrows = [(state, label, chance.randrange(number)) for state in range(number) for label in rows[state]]
            self.assert_blocks([(tuple(row), chance.randrange(2) * chance.randrange(2)) for row in rows], arrows)

    def test_chains_and_cycles(self):
        for number in (1, 2, 3, 6, 12, 30):
            chain = [(state, 0, state + 1) for state in range(number - 1)]
            keys = [int(state == number - 1) for state in range(number)]
            self.assert_blocks(keys, chain)
            self.assertEqual(len(set(blocks_of(keys, chain))), number)
            for step in (1, 2, 3):
                cycle = [(state, 0, (state + step) % number) for state in range(number)]
                self.assert_blocks(keys, cycle)
                self.assertEqual(len(set(blocks_of([0] * number, cycle))), 1)

    def test_many_states(self):
        chain = [(state, 0, state + 1) for state in range(1999)]
        self.assertEqual(len(set(blocks_of([0] * 1999 + [1], chain))), 2000)

    def test_classes(self):
        self.assertEqual(classes_of([]), [LETTERS])
        self.assertEqual(classes_of(["b", "bd", "b"]), [LETTERS.replace("b", "").replace("d", ""), "b", "d"])
        self.assertEqual(classes_of([LETTERS[:3], LETTERS[3:]]), [LETTERS[:3], LETTERS[3:]])

    def test_grouped(self):
        self.assertEqual(grouped([]), {})
        self.assertEqual(grouped([(2, "b"), (1, "c"), (2, "a"), (0, "d")]), {0: ["d"], 1: ["c"], 2: ["a", "b"]})

    def test_leading(self):
        arrows = [(0, "a", 1), (1, "b", 2), (3, "a", 3), (4, "a", 0), (2, "c", 5)]
        self.assertEqual(leading(6, arrows, [2]), [True, True, True, False, True, False])
        self.assertEqual(leading(6, arrows, []), [False] * 6)

    def test_numbers_from_first(self):
        self.assertEqual(list(numbers_from_first({7: [5, 7, 3], 5: [9], 3: [], 9: [3], 4: [7]}, 7).items()),
                         [(7, 0), (5, 1), (3, 2), (9, 3)])


if __name__ == "__main__":
    unittest.main()
