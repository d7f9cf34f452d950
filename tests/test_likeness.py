import random
import unittest

from anchoredits.edits import AtOnce, First, Once, Perhaps
from anchoredits.likeness import is_likeness, likeness
from anchoredits.machines import Machine
from anchoredits.programs import Program

from samples import LETTERS, NO_STRINGS, NO_TEXTS, random_programs, words_over
from test_machines import NEVER, SAME, random_machine, result_of

KINDS = [Once, First, Perhaps, AtOnce]

# Two tables that do the same: the second one writes later, and has states behind which no text is right.
EARLY = ("", (
    (None, (("a", 1, "xy", False), ("b", 2, "", True))),
    ("", ()),
    ("", (("b", 2, "", True), ("c", 3, "z", False))),
    (None, (("c", 3, "", True),)),
))
LATE = ("", (
    (None, (("a", 1, "x", False), ("b", 2, "b", False), ("c", 3, "abc", False))),
    ("y", (("a", 4, "", True),)),
    ("", (("b", 5, "", True),)),
    (None, (("a", 4, "y", False),)),
    (None, ()),
    ("", (("b", 2, "b", False),)),
))
PAPER = (((0, 0, 0, ""), (1, 1, 0, "y"), (2, 2, 0, ""), (2, 5, 0, "")), (3,), (3, 4))


def rest_of(one, other):
    """(which, text) of two texts that match, or None."""
    if one.startswith(other):
        return (0, one[len(other):])
    return (1, other[len(one):]) if other.startswith(one) else None


def move_of(table, state, letter):
    moves = [move for move in table[1][state][1] if letter in move[0]]
    return moves[0] if moves else None


def leads_nowhere(table, states):
    return all(table[1][state][0] is None and all(move[1] in states for move in table[1][state][1]) for state in states)


def is_right(one, other, paper):
    """Whether a paper of the right form is right, letter by letter, by the words of promise 38."""
    rows, dead, others = paper

    def is_shown(state, other_state, text, other_text):
        rest = rest_of(text, other_text)
        return (state in dead and other_state in others) or (
            rest is not None and (state, other_state, *rest) in rows)

    if not leads_nowhere(one, dead) or not leads_nowhere(other, others) or not is_shown(0, 0, one[0], other[0]):
        return False
    for state, other_state, which, text in rows:
        ahead, behind = (text, "") if which == 0 else ("", text)
        ending, other_ending = one[1][state][0], other[1][other_state][0]
        if (ending is None) != (other_ending is None):
            return False
        if ending is not None and ahead + ending != behind + other_ending:
            return False
        for letter in LETTERS:
            move, other_move = move_of(one, state, letter), move_of(other, other_state, letter)
            if move is not None and other_move is not None:
                put, other_put = move[2] + letter * move[3], other_move[2] + letter * other_move[3]
                if not is_shown(move[1], other_move[1], ahead + put, behind + other_put):
                    return False
            elif move is not None and move[1] not in dead or other_move is not None and other_move[1] not in others:
                return False
    return True


class LikenessTest(unittest.TestCase):
    def assert_paper(self, one, other):
        paper = likeness(one, other)
        self.assertIs(type(paper), tuple)
        self.assertEqual([type(part) for part in paper], [tuple] * 3)
        self.assertIs(is_likeness(one, other, paper), True)
        self.assertTrue(is_right(one, other, paper))
        return paper


class PapersTest(LikenessTest):
    def test_tables_that_are_alike(self):
        self.assert_paper(EARLY, LATE)
        self.assert_paper(LATE, EARLY)
        self.assert_paper(EARLY, EARLY)
        self.assert_paper(SAME, SAME)
        self.assert_paper(EARLY, Machine.of_table(LATE).table)
        self.assertEqual(likeness(other=SAME, one=SAME), (((0, 0, 0, ""),), (), ()))

    def test_nowhere_right(self):
        nowhere = ("abc", ((None, (("a", 1, "x", True),)), (None, (("b", 0, "", False),)), ("", ())))
        for one in (NEVER, nowhere):
            for other in (NEVER, nowhere):
                self.assert_paper(one, other)
            self.assertIsNone(likeness(one, SAME))
            self.assertIsNone(likeness(SAME, one))

    def test_tables_that_are_not_alike(self):
        for one, other in (
                (SAME, ("a", SAME[1])),
                (SAME, ("", (("a", SAME[1][0][1]),))),
                (SAME, ("", ((None, SAME[1][0][1]),))),
                (SAME, ("", (("", ((LETTERS[1:], 0, "", True),)),))),
                (SAME, ("", (("", ((LETTERS[1:], 0, "", True), ("\n", 0, "", False))),))),
                # All that the second one writes comes a letter late.
                (("", (("a", ((LETTERS, 0, "", True),)),)), ("a", (("", ((LETTERS, 0, "", True),)),))),
                (EARLY, Machine.of(Program()).table)):
            self.assertIsNone(likeness(one, other))
            self.assertIsNone(likeness(other, one))

    def test_tables_that_differ_for_one_text_only(self):
        one = ("", tuple(("", (("ab", index + 1, "", True),)) for index in range(4)) + (("", ()),))
        states = list(one[1])
        for state in range(5):
            changed = list(states)
            changed[state] = ("x", changed[state][1])
            self.assertIsNone(likeness(one, ("", tuple(changed))))
        other = ("", (("", (("b", 2, "", True), ("a", 1, "", True))), ("", (("ab", 2, "", True),)), *states[2:]))
        self.assertIsNone(likeness(one, other))
        # Of the texts that end in state 3 just "ba" and a third letter write something else.
        other = ("", (("", (("a", 1, "", True), ("b", 5, "", True))), *states[1:], (
            "", (("a", 6, "", True), ("b", 2, "", True))), ("", (("a", 7, "", True), ("b", 3, "", True))),
            ("", (("ab", 4, "", True),))))
        self.assert_paper(one, other)
        other = (other[0], other[1][:7] + (("b", other[1][7][1]),))
        told = [word for word in words_over("ab", 6) if result_of(one, word) != result_of(other, word)]
        self.assertEqual(told, ["baa"])
        self.assertIsNone(likeness(one, other))

    def test_letters_that_are_written_late(self):
        # For each letter the second table keeps a state to write it in; the first one writes it at once.
        keeps = tuple((letter, (("z", 4, letter + "z", False),)) for letter in "abc")
        one = ("", ((None, (("abc", 1, "", True),)), ("", (("z", 2, "", True),)), ("", ())))
        other = ("", ((None, tuple((letter, index + 1, "", False) for index, letter in enumerate("abc"))), *keeps,
                      ("", ())))
        self.assert_paper(one, other)
        self.assert_paper(other, one)
        one = ("", ((None, (("abc", 1, "", True),)), ("", ())))
        other = ("", ((None, (("abc", 1, "", False),)), ("a", ())))
        self.assertIsNone(likeness(one, other))
        # Of each two letters one machine writes the first, the other one the second.
        first = ("", ((None, ((LETTERS, 1, "", True),)), (None, ((LETTERS, 2, "", False),)), ("", ())))
        second = ("", ((None, ((LETTERS, 1, "", False),)), (None, ((LETTERS, 2, "", True),)), ("", ())))
        self.assertIsNone(likeness(first, second))
        self.assertIsNone(likeness(second, first))
        for text in ("", "a", "b"):
            for which in (0, 1):
                rows = ((0, 0, 0, ""), (1, 1, which if text else 0, text), (2, 2, 0, ""))
                self.assertIs(is_likeness(first, second, (rows, (), ())), False)

    def test_random_tables(self):
        chance = random.Random(22)
        words = words_over("ab", 8)
        alike = 0
        tables = [random_machine(chance, "ab") for _ in range(120)]
        for one, other in zip(tables, tables[1:]):
            self.assert_paper(one, Machine.of_table(one).table)
            self.assert_paper(Machine.of_table(one).table, one)
            told = all(result_of(one, word) == result_of(other, word) for word in words)
            self.assertIs(likeness(one, other) is not None, told)
            alike += told
            if told:
                self.assert_paper(one, other)
        self.assertGreater(alike, 5)

    def test_machines_of_programs(self):
        programs = random_programs(random.Random(23), "ab", 120, KINDS)
        for one, other in zip(programs, programs[1:]):
            one, other = Machine.of(one), Machine.of(other)
            self.assertIs(likeness(one.table, other.table) is not None, one == other)
        one = Machine.of(Program(Once("a", "x"), Once("b", "y"), Once("cd", "z"))).table
        self.assert_paper(one, Machine.of(Program(Once("cd", "z"), Once("b", "y"), Once("a", "x"))).table)


class IsLikenessTest(LikenessTest):
    def test_right_papers(self):
        self.assertTrue(is_right(EARLY, LATE, PAPER))
        self.assertIs(is_likeness(EARLY, LATE, PAPER), True)
        self.assertIs(is_likeness(value=PAPER, other=LATE, one=EARLY), True)
        rows, dead, others = PAPER
        self.assertIs(is_likeness(EARLY, LATE, (rows[::-1], dead, others[::-1])), True)
        self.assertIs(is_likeness(EARLY, LATE, (rows + rows, dead + dead, others)), True)
        # A row more, that is right itself.
        self.assertIs(is_likeness(SAME, LATE, (((0, 4, 0, ""),), (), ())), False)
        table = ("", (("", ((LETTERS, 0, "", True),)), ("x", ()), ("", ())))
        paper = (((0, 0, 0, ""), (1, 2, 1, "x")), (), ())
        self.assertIs(is_likeness(table, table, paper), True)
        self.assertIs(is_likeness(table, table, (paper[0] + ((1, 1, 0, "x"),), (), ())), False)

    def test_one_thing_wrong(self):
        rows, dead, others = PAPER
        wrong = [(rows[:place] + rows[place + 1:], dead, others) for place in range(len(rows))]
        wrong += [(rows, (), others), (rows, dead, ()), (rows, dead, (3,)), (rows, dead, (4,))]
        wrong += [(rows, (3, state), others) for state in (0, 1, 2)]
        wrong += [(rows, dead, (3, 4, state)) for state in (0, 1, 2, 5)]
        for row in ((0, 0, 0, "a"), (0, 0, 1, "a"), (1, 1, 1, "y"), (1, 1, 0, "x"), (1, 1, 0, "yy"), (1, 1, 0, ""),
                    (1, 2, 0, ""), (2, 1, 0, ""), (2, 2, 0, "b"), (2, 2, 1, "b"), (3, 4, 0, "x"), (0, 4, 0, "")):
            wrong += [(rows + (row,), dead, others)]
            for place in range(len(rows)):
                wrong.append((rows[:place] + (row,) + rows[place + 1:], dead, others))
        for paper in wrong:
            told = is_right(EARLY, LATE, paper)
            self.assertIs(is_likeness(EARLY, LATE, paper), told)
            # This row alone is right beside the other ones: no text is right behind its states.
            self.assertIs(told, (3, 4, 0, "x") in paper[0] and len(paper[0]) == 5)

    def test_no_paper(self):
        rows, dead, others = PAPER
        row = (1, 1, 0, "y")
        rest = tuple(each for each in rows if each != row)
        wrong_rows = [
            None, True, 0, "", "abcd", [], list(row), (), row[:3], row + (0,), (None, 1, 0, "y"), (True, 1, 0, "y"),
            (1, True, 0, "y"), (1, 1, False, "y"), ("1", 1, 0, "y"), (-3, 1, 0, "y"), (4, 1, 0, "y"), (1, 6, 0, "y"),
            (1, -5, 0, "y"), (10 ** 59, 1, 0, "y"), (1, 1, 2, "y"), (1, 1, -1, "y"), (1, 1, None, "y"), (1, 1, 0, None),
            (1, 1, 0, 0), (1, 1, 0, ("y",)), (1, 1, 0, ["y"]), (1, 1, 0, "y\t"), (1, 1, 0, "%"), (0, 0, 1, ""), {0: 1},
            ([1], 1, 0, "y"), (1, (1,), 0, "y"), (1, 1, 0, "y", ""),
        ]
        wrong = [(rows + (value,), dead, others) for value in wrong_rows]
        wrong += [(rest + (value,), dead, others) for value in wrong_rows]
        for value in NO_STRINGS + NO_TEXTS + ["", "3", (3, None), (3, True), (3, 4.0), (3, "3"), (3, -1), (3, 6), [3], (3, 9),
                                              ((3,),), {3: 3}]:
            wrong += [(value, dead, others)] if value != () else []
            wrong += [(rows, value, others), (rows, dead, value)]
        wrong += [(rows, (3, 4), others), (rows, (3, -1), others), (rows, dead, (3, 4, 6)), (rows, dead, (3, 4, -2))]
        wrong += [list(PAPER), PAPER[:2], PAPER + ((),), (list(rows), dead, others), (rows, list(dead), others),
                  (rows, dead, list(others)), rows, {0: PAPER}, (PAPER,), SAME, EARLY]
        for value in wrong + NO_STRINGS + NO_TEXTS + ["", "abc"]:
            self.assertIs(is_likeness(EARLY, LATE, value), False, value)

    def test_which_of_both_is_ahead(self):
        rows = ((0, 0, 0, ""), (1, 1, 1, "y"), (2, 2, 0, ""), (5, 2, 0, ""))
        self.assertIs(is_likeness(LATE, EARLY, (rows, (3, 4), (3,))), True)
        for row in ((1, 1, 2, "y"), (1, 1, 0, "y"), (1, 1, True, "y"), (1, 1, -1, "y")):
            self.assertIs(is_likeness(LATE, EARLY, (rows + (row,), (3, 4), (3,))), False)
            self.assertIs(is_likeness(LATE, EARLY, (rows[:1] + (row,) + rows[2:], (3, 4), (3,))), False)

    def test_papers_for_tables_that_are_not_alike(self):
        for paper in (PAPER, (((0, 0, 0, ""),), (), ()), ((), (), ()), ((), (0,), (0,))):
            self.assertIs(is_likeness(SAME, ("", (("a", SAME[1][0][1]),)), paper), False)
            self.assertIs(is_likeness(SAME, NEVER, paper), False)

    def test_changed_papers(self):
        chance = random.Random(24)
        for _ in range(150):
            one = random_machine(chance, "ab")
            other = Machine.of_table(one).table
            paper = likeness(one, other)
            for _ in range(12):
                parts = [list(part) for part in paper]
                part = chance.choice(parts)
                if part and chance.random() < 0.5:
                    part.pop(chance.randrange(len(part)))
                elif part is parts[0]:
                    text = chance.choice(["", "a", "b", "c", "ab"])
                    which = chance.randrange(2) if text else 0
                    part.append((chance.randrange(len(one[1])), chance.randrange(len(other[1])), which, text))
                else:
                    part.append(chance.randrange(len((one if part is parts[1] else other)[1])))
                changed = tuple(tuple(part) for part in parts)
                self.assertIs(is_likeness(one, other, changed), is_right(one, other, changed))


if __name__ == "__main__":
    unittest.main()
