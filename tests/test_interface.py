import importlib
import inspect
import unittest

# For each file its functions and classes; for each class of it what it must have itself.
INTERFACE = {
    "edits": {
        "places": None,
        "Edit": ["MOST"],
        "Once": ["__init__", "__eq__", "old", "new"],
        "First": ["__init__", "__eq__", "old", "new"],
        "Perhaps": ["__init__", "__eq__", "old", "new"],
        "Every": ["__init__", "__eq__", "old", "new"],
        "AtOnce": ["__init__", "__eq__", "parts"],
    },
    "programs": {
        "Program": [
            "__init__", "__eq__", "__len__", "edits", "olds", "news", "then", "run", "is_right", "steps", "mirrored",
        ],
    },
    "origins": {"origins": None},
    "sets": {
        "TextSet": [
            "__init__", "__eq__", "__or__", "__and__", "__sub__", "__contains__", "__bool__", "every", "having",
            "of_table", "table", "size", "least", "letters", "is_within", "count", "ordered", "difference",
        ],
    },
    "machines": {
        "Machine": ["of", "of_table", "table", "__eq__", "run", "sure", "domain", "into", "limited_to", "then"],
    },
    "compare": dict.fromkeys([
        "parted", "within", "agreeing", "unchanged", "orders", "exchangeable", "orders_alike", "needless", "back",
        "unrestored", "doubled", "one_edit", "unheld",
    ]),
    "likeness": dict.fromkeys(["likeness", "is_likeness"]),
    "anchors": dict.fromkeys([
        "windows", "edit_at", "ways", "outcomes", "steady", "breaker", "stays", "spoiled",
    ]),
    "misses": dict.fromkeys(["changed", "changes", "distance", "nearest", "far_paper", "is_far_paper"]),
    "exchanges": dict.fromkeys([
        "exchanged", "is_exchange", "cost_of", "cheapest", "prices", "is_prices", "single", "thinned", "orders_of", "as_edit",
    ]),
    "hands": {
        "hunks": None,
        "Merge": [
            "__init__", "text", "hands", "clashes", "peaceful", "hunks_of", "together", "origins_of", "led_over", "led_back",
            "is_led",
        ],
    },
    "longs": {
        "run_long": None, "origin_long": None, "stands_in": None, "times_in": None,
        "LongText": [
            "__init__", "__eq__", "__add__", "of", "length", "runs", "letter", "part", "difference", "count", "place",
        ],
    },
    "folders": {
        "joined": None,
        "Folder": [
            "__init__", "files", "moment", "undone", "depth", "apply", "write", "remove", "undo", "redo", "attempt", "explore",
            "at", "blame",
        ],
        "GuardedFolder": ["__init__", "keep", "do", "labels"],
        "CountingFolder": ["__init__", "counts"],
        "GuardedCountingFolder": ["__init__"],
    },
    "texts": dict.fromkeys(["write_literal", "write_program", "read_literal", "read_program", "read_long"]),
    "desks": {"Desk": ["__init__", "folder", "say"]},
    "errors": {
        "InvalidOld": ["__init__"],
        "InvalidNew": ["__init__"],
        "InvalidText": ["__init__"],
        "InvalidTable": ["__init__"],
        "InvalidCount": ["__init__"],
        "InvalidSpot": ["__init__"],
        "InvalidHand": ["__init__"],
        "InvalidFiles": ["__init__"],
        "InvalidName": ["__init__"],
        "InvalidPart": ["__init__"],
        "InvalidEdit": ["__init__"],
        "InvalidChange": ["__init__"],
        "InvalidProgram": ["__init__"],
        "InvalidRun": ["__init__"],
        "NoExchange": ["__init__"],
        "NoMirror": ["__init__"],
        "NoBack": ["__init__"],
        "Unbounded": ["__init__"],
        "Unreadable": ["__init__"],
        "InvalidRow": ["__init__"],
        "Unlike": ["__init__"],
        "NoPlace": ["__init__"],
        "Overlap": ["__init__"],
        "OutOfRange": ["__init__"],
        "NoFile": ["__init__"],
        "NoLabel": ["__init__"],
        "TooMany": ["__init__"],
        "TooLong": ["__init__"],
        "NotRight": ["__init__"],
        "Clash": ["__init__"],
        "FileNotRight": ["__init__"],
        "Apart": ["__init__"],
        "Broken": ["__init__"],
        "Unsafe": ["__init__"],
    },
}

# The names of the parameters of functions and methods, for those that are passed by name.
PARAMETERS = {
    "edits": {"places": "text word", "Once": "old new", "AtOnce": "*parts"},
    "programs": {
        "Program": "*edits", "Program.then": "*others", "Program.run": "text", "Program.is_right": "text",
        "Program.steps": "text", "Program.mirrored": "",
    },
    "origins": {"origins": "program text"},
    "sets": {
        "TextSet.every": "", "TextSet.having": "word", "TextSet.of_table": "table", "TextSet.is_within": "other",
        "TextSet.count": "number letters", "TextSet.ordered": "letters", "TextSet.difference": "other",
    },
    "machines": {
        "Machine.of": "program", "Machine.of_table": "table", "Machine.run": "text", "Machine.sure": "text",
        "Machine.into": "texts", "Machine.limited_to": "texts", "Machine.then": "other",
    },
    "compare": {
        "parted": "one other", "within": "one other", "agreeing": "one other", "unchanged": "program",
        "orders": "one other", "exchangeable": "program index", "orders_alike": "program", "needless": "program",
        "back": "program", "unrestored": "program", "doubled": "program", "one_edit": "program",
        "unheld": "before program after",
    },
    "likeness": {"likeness": "one other", "is_likeness": "one other value"},
    "anchors": {
        "windows": "text first last", "edit_at": "text first last new", "ways": "text edits", "outcomes": "text edits",
        "steady": "text first last edits", "breaker": "text begin end edits", "stays": "edit program",
        "spoiled": "edit others",
    },
    "misses": {
        "changed": "text changes", "changes": "one other", "distance": "one other", "nearest": "text old",
        "far_paper": "one other", "is_far_paper": "one other number value",
    },
    "exchanges": {
        "exchanged": "text exchange", "is_exchange": "text other value", "cost_of": "exchange each=0",
        "cheapest": "one other each=0", "prices": "one other each=0", "is_prices": "one other number value each=0",
        "single": "one other", "thinned": "text exchange", "orders_of": "text exchange", "as_edit": "text exchange",
    },
    "hands": {
        "hunks": "program text", "Merge": "text *programs", "Merge.peaceful": "", "Merge.hunks_of": "*hands",
        "Merge.together": "*hands", "Merge.origins_of": "*hands", "Merge.led_over": "hand *others",
        "Merge.led_back": "hand *others", "Merge.is_led": "hand others value",
    },
    "longs": {
        "run_long": "program long", "origin_long": "program long place", "stands_in": "long texts",
        "times_in": "texts head piece tail", "LongText.of": "text", "LongText.letter": "place", "LongText.part": "first last",
        "LongText.difference": "other", "LongText.count": "word", "LongText.place": "word number",
    },
    "folders": {
        "joined": "one other", "Folder": "files", "Folder.apply": "programs", "Folder.write": "name text",
        "Folder.remove": "name", "Folder.undo": "count=1", "Folder.redo": "count=1", "Folder.attempt": "action",
        "Folder.explore": "action", "Folder.at": "number", "Folder.blame": "name", "GuardedFolder": "files guards",
        "GuardedFolder.keep": "label program names", "GuardedFolder.do": "label", "CountingFolder": "files",
        "GuardedCountingFolder": "files guards",
    },
    "texts": {
        "write_literal": "text", "write_program": "program", "read_literal": "text", "read_program": "text",
        "read_long": "text",
    },
    "desks": {"Desk": "", "Desk.say": "row"},
}

# Parameters that are passed by name only.
BY_NAME_ONLY = ["each"]


def written(parameter):
    """A parameter as PARAMETERS has it."""
    star = "*" if parameter.kind is parameter.VAR_POSITIONAL else ""
    default = "" if parameter.default is parameter.empty else f"={parameter.default!r}"
    return star + parameter.name + default


class InterfaceTest(unittest.TestCase):
    def test_defined_in_its_file(self):
        for file, names in INTERFACE.items():
            module = importlib.import_module("anchoredits." + file)
            for name, members in names.items():
                value = getattr(module, name)
                self.assertEqual(value.__module__, "anchoredits." + file, name)
                self.assertIs(inspect.isclass(value), members is not None, name)

    def test_defined_in_the_class_itself(self):
        for file, names in INTERFACE.items():
            module = importlib.import_module("anchoredits." + file)
            for name, members in names.items():
                for member in members or []:
                    self.assertIn(member, vars(getattr(module, name)), name)

    def test_names_of_parameters(self):
        for file, names in PARAMETERS.items():
            module = importlib.import_module("anchoredits." + file)
            for name, told in names.items():
                value = module
                for part in name.split("."):
                    value = getattr(value, part)
                parameters = list(inspect.signature(value).parameters.values())
                words = [written(parameter) for parameter in parameters if parameter.name != "self"]
                self.assertEqual(" ".join(words), told, name)
                for parameter in parameters:
                    self.assertIs(parameter.kind is parameter.KEYWORD_ONLY, parameter.name in BY_NAME_ONLY, name)


if __name__ == "__main__":
    unittest.main()
