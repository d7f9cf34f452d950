import importlib
import inspect
import unittest

# For each file its functions and classes; for each class of it what it must have itself.
INTERFACE = {
    "edits": {
        "places": None,
        "Edit": ["MOST"],
        "Once": ["__init__", "__eq__", "old", "new"],
        "First": ["__init__", "__eq__", "old", "new"],
        "Perhaps": ["__init__", "__eq__", "old", "new"],
        "Every": ["__init__", "__eq__", "old", "new"],
        "AtOnce": ["__init__", "__eq__", "parts"],
    },
    "errors": {
        "InvalidOld": ["__init__"],
        "InvalidNew": ["__init__"],
        "InvalidText": ["__init__"],
        "InvalidTable": ["__init__"],
        "InvalidCount": ["__init__"],
        "InvalidSpot": ["__init__"],
        "InvalidHand": ["__init__"],
        "InvalidFiles": ["__init__"],
        "InvalidName": ["__init__"],
        "InvalidPart": ["__init__"],
        "InvalidEdit": ["__init__"],
        "InvalidChange": ["__init__"],
        "InvalidProgram": ["__init__"],
        "InvalidRun": ["__init__"],
        "NoExchange": ["__init__"],
        "NoMirror": ["__init__"],
        "NoBack": ["__init__"],
        "Unbounded": ["__init__"],
        "Unreadable": ["__init__"],
        "InvalidRow": ["__init__"],
        "Unlike": ["__init__"],
        "NoPlace": ["__init__"],
        "Overlap": ["__init__"],
        "OutOfRange": ["__init__"],
        "NoFile": ["__init__"],
        "NoLabel": ["__init__"],
        "TooMany": ["__init__"],
        "TooLong": ["__init__"],
        "NotRight": ["__init__"],
        "Clash": ["__init__"],
        "FileNotRight": ["__init__"],
        "Apart": ["__init__"],
        "Broken": ["__init__"],
        "Unsafe": ["__init__"],
    },
}


class InterfaceTest(unittest.TestCase):
    def test_defined_in_its_file(self):
        for file, names in INTERFACE.items():
            module = importlib.import_module("anchoredits." + file)
            for name, members in names.items():
                value = getattr(module, name)
                self.assertEqual(value.__module__, "anchoredits." + file, name)
                self.assertIs(inspect.isclass(value), members is not None, name)

    def test_defined_in_the_class_itself(self):
        for file, names in INTERFACE.items():
            module = importlib.import_module("anchoredits." + file)
            for name, members in names.items():
                for member in members or []:
                    self.assertIn(member, vars(getattr(module, name)), name)


if __name__ == "__main__":
    unittest.main()
