"""What the points of the document promise together: one change, led by all roads, comes to the same text."""

import random
import unittest

from anchoredits.anchors import edit_at, outcomes, steady
from anchoredits.compare import agreeing, unchanged, unheld
from anchoredits.desks import Desk
from anchoredits.edits import AtOnce, Every, First, Once, Perhaps
from anchoredits.exchanges import as_edit, cheapest, exchanged, orders_of, single, thinned
from anchoredits.folders import CountingFolder, Folder, GuardedCountingFolder, GuardedFolder, joined
from anchoredits.hands import Merge, hunks
from anchoredits.longs import LongText, origin_long, run_long, stands_in
from anchoredits.machines import Machine
from anchoredits.misses import changed, changes
from anchoredits.origins import origins
from anchoredits.programs import Program
from anchoredits.sets import TextSet
from anchoredits.texts import read_literal, read_program, write_literal, write_program

from samples import naive_outcome, random_programs

KINDS = [Once, First, Perhaps, AtOnce]


class RoadsTest(unittest.TestCase):
    @classmethod
    def setUpClass(cls):
        chance = random.Random(121)
        cls.cases = []
        for program in random_programs(chance, 'ab"\n\\', 4000, KINDS):
            text = "".join(chance.choice('ab"\n\\') for _ in range(chance.randint(0, 12)))
            result = naive_outcome(program, text)
            if result is not None and result != text:
                cls.cases.append((program, text, result))
        cls.cases = cls.cases[:120]

    def test_number_of_cases(self):
        self.assertEqual(len(self.cases), 120)

    def test_programs_machines_and_sets(self):
        for program, text, result in self.cases:
            self.assertEqual(program.run(text), result)
            self.assertEqual(list(program.steps(text))[-1], result)
            machine = Machine.of(program)
            self.assertEqual(machine.run(text), result)
            self.assertIn(text, machine.domain)
            self.assertIn(text, machine.into(TextSet(result)))
            self.assertEqual(machine.limited_to(TextSet(text)).run(text), result)
            self.assertNotIn(text, unchanged(program))
            self.assertIn(text, agreeing(program, Program(*program.edits)))
            self.assertIsNone(unheld(TextSet(text), program, TextSet(result)))
            self.assertEqual(unheld(TextSet(text), program, TextSet(text)), text)
            self.assertEqual("".join(self.letter_of(program, text, origin) for origin in origins(program, text)), result)

    def letter_of(self, program, text, origin):
        """The letter that an origin of a program's result is."""
        if type(origin) is int:
            return text[origin]
        index, part, place = origin
        edit = program.edits[index]
        return (edit.parts[part][1] if isinstance(edit, AtOnce) else edit.new)[place]

    def test_texts_that_write_it(self):
        for program, text, result in self.cases:
            self.assertEqual(read_program(write_program(program)).run(read_literal(write_literal(text))), result)

    def test_hands_and_exchanges(self):
        for program, text, result in self.cases:
            merge = Merge(text, program)
            self.assertEqual(merge.together(0), result)
            self.assertEqual(merge.hunks_of(0), hunks(program, text))
            exchange = merge.led_over(0)
            self.assertEqual(exchanged(text, exchange), result)
            self.assertTrue(merge.is_led(0, [], exchange))
            for told in (thinned(text, exchange), cheapest(text, result), single(text, result)):
                self.assertEqual(exchanged(text, told), result)
                edit = as_edit(text, told)
                if edit is not None:
                    self.assertEqual(Program(edit).run(text), result)
                if len(told) <= 4:
                    for order in orders_of(text, told):
                        edits = [Once(text[told[index][0]:told[index][1]], told[index][2]) for index in order]
                        self.assertEqual(Program(*edits).run(text), result)
                        self.assertIn(result, outcomes(text, edits))
            back = merge.led_back(0)
            if back is not None:
                self.assertEqual(exchanged(result, back), text)
            self.assertEqual(changed(text, changes(text, result)), result)

    def test_folders(self):
        for program, text, result in self.cases:
            for folder in (Folder({"a": text}), GuardedFolder({"a": text}, {"a": TextSet(text, result)}),
                           CountingFolder({"a": text}), GuardedCountingFolder({"a": text}, {})):
                folder.apply({"a": program})
                self.assertEqual([folder.files, folder.at(0)], [{"a": result}, {"a": text}])
                self.assertEqual(folder.blame("a"), tuple(
                    (0, origin) if type(origin) is int else (1, origin) for origin in origins(program, text)))
                self.assertEqual(joined(folder, Folder({"a": text})).files, {"a": result})
                folder.undo()
                self.assertEqual(folder.explore(lambda same: [same.redo(), same.files]), [None, {"a": result}])
            folder = GuardedCountingFolder({"a": text}, {"a": TextSet.every()})
            folder.keep("label", program, ["a"])
            folder.do("label")
            self.assertEqual([folder.files, folder.counts], [{"a": result}, {"a": 1}])

    def test_desks(self):
        for program, text, result in self.cases:
            desk = Desk()
            told = write_program(program)
            self.assertEqual(desk.say(f"run {write_literal(text)} | {told}"), write_literal(result))
            desk.say(f"write a {write_literal(text)}")
            desk.say(f"apply a {told}")
            self.assertEqual([desk.say("show a"), desk.folder.files], [write_literal(result), {"a": result}])
            pieces = " + ".join(f"{write_literal(letter)}*1" for letter in text)
            self.assertEqual(desk.say(f"long {pieces} | {told}"), str(len(result)))

    def test_long_texts(self):
        for program, text, result in self.cases:
            for long in (LongText.of(text), LongText(*[(letter, 1) for letter in text])):
                told = run_long(program, long)
                self.assertEqual(told.part(0, told.length), result)
                self.assertTrue(stands_in(told, TextSet(result)))
                self.assertEqual(tuple(origin_long(program, long, place) for place in range(told.length)), origins(program, text))

    def test_every(self):
        program = Program(Every("ab", "c"), Once("cc", "dd"))
        text, result = "xababyab", "xddyc"
        self.assertEqual([program.run(text), Merge(text, program).together(0)], [result] * 2)
        self.assertEqual(exchanged(text, Merge(text, program).led_over(0)), result)
        self.assertTrue(run_long(program, LongText(("x", 1), ("ab", 2), ("yab", 1))) == LongText.of(result))
        folder = Folder({"a": text})
        folder.apply({"a": program})
        self.assertEqual(folder.files["a"], result)
        self.assertEqual(Desk().say('run "xababyab" | every "ab" "c" ; once "cc" "dd"'), '"xddyc"')

    def test_an_edit_found_for_a_place(self):
        chance = random.Random(122)
        found = 0
        for _ in range(300):
            text = "".join(chance.choice("abc") for _ in range(chance.randint(1, 10)))
            first = chance.randint(0, len(text))
            last = chance.randint(first, len(text))
            edit = edit_at(text, first, last, "xy")
            result = text[:first] + "xy" + text[last:]
            if edit is not None:
                found += 1
                program = Program(edit)
                self.assertEqual([program.run(text), Machine.of(program).run(text) if len(edit.old) <= 8 else result], [result] * 2)
                self.assertEqual(Merge(text, program).together(0), result)
                begin = text.index(edit.old)
                self.assertEqual(exchanged(text, ((begin, begin + len(edit.old), edit.new),)), result)
                self.assertIn((begin, begin + len(edit.old)), steady(text, first, last, []))
        self.assertGreater(found, 200)


if __name__ == "__main__":
    unittest.main()
