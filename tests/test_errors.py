import unittest

from anchoredits import errors

ERRORS = [
    (ValueError, "InvalidOld", ["value"]),
    (ValueError, "InvalidNew", ["value"]),
    (ValueError, "InvalidText", ["value"]),
    (ValueError, "InvalidTable", ["value"]),
    (ValueError, "InvalidCount", ["value"]),
    (ValueError, "InvalidSpot", ["value"]),
    (ValueError, "InvalidHand", ["value"]),
    (ValueError, "InvalidFiles", ["value"]),
    (ValueError, "InvalidName", ["value"]),
    (ValueError, "InvalidPart", ["index"]),
    (ValueError, "InvalidEdit", ["index"]),
    (ValueError, "InvalidChange", ["index"]),
    (ValueError, "InvalidProgram", ["index"]),
    (ValueError, "InvalidRun", ["index"]),
    (ValueError, "NoExchange", ["index"]),
    (ValueError, "NoMirror", ["index"]),
    (ValueError, "NoBack", ["index"]),
    (ValueError, "Unbounded", ["index"]),
    (ValueError, "Unreadable", ["index"]),
    (ValueError, "InvalidRow", ["row"]),
    (ValueError, "Unlike", []),
    (LookupError, "NoPlace", ["index", "number"]),
    (LookupError, "Overlap", ["index"]),
    (LookupError, "OutOfRange", ["value"]),
    (LookupError, "NoFile", ["name"]),
    (LookupError, "NoLabel", ["label"]),
    (OverflowError, "TooMany", ["limit"]),
    (OverflowError, "TooLong", ["limit"]),
    (RuntimeError, "NotRight", ["hand"]),
    (RuntimeError, "Clash", ["hand", "other"]),
    (RuntimeError, "FileNotRight", ["name", "index"]),
    (RuntimeError, "Apart", ["name"]),
    (RuntimeError, "Broken", ["name"]),
    (RuntimeError, "Unsafe", ["name", "case"]),
]

PAIRS = [
    (0, 2), ("a", ""), ("names", "%\t"), (None, True), (False, -1), (10 ** 59, 1),
    ([], ["a"]), ({"a": 1}, ()), (("a", ["b"]), {"a": [{}]}),
]


class ErrorsTest(unittest.TestCase):
    def each(self):
        for base, name, fields in ERRORS:
            yield getattr(errors, name), base, fields

    def assert_fields(self, error, fields, values):
        self.assertEqual(sorted(vars(error)), sorted(fields))
        for field, value in zip(fields, values):
            self.assertIs(getattr(error, field), value)

    def test_no_other_error(self):
        told = [name for name, value in vars(errors).items() if isinstance(value, type)]
        self.assertEqual(sorted(told), sorted(name for _, name, _ in ERRORS))

    def test_directly_below_one_error_of_python(self):
        for kind, base, _ in self.each():
            self.assertEqual(kind.__bases__, (base,))
            for other in (ValueError, LookupError, OverflowError, RuntimeError):
                self.assertIs(issubclass(kind, other), other is base)

    def test_fields_by_position(self):
        for kind, _, fields in self.each():
            for pair in PAIRS:
                values = pair[:len(fields)]
                self.assert_fields(kind(*values), fields, values)

    def test_fields_by_name(self):
        for kind, _, fields in self.each():
            for pair in PAIRS:
                values = pair[:len(fields)]
                self.assert_fields(kind(**dict(zip(fields, values))), fields, values)
                self.assert_fields(kind(**dict(reversed(list(zip(fields, values))))), fields, values)

    def test_no_more_and_no_fewer_fields(self):
        for kind, _, fields in self.each():
            with self.assertRaises(TypeError):
                kind(*range(len(fields) + 1))
            if fields:
                with self.assertRaises(TypeError):
                    kind(*range(len(fields) - 1))

    def test_raised_and_caught(self):
        for kind, base, fields in self.each():
            values = (["kept"], "kept")[:len(fields)]
            with self.assertRaises(base) as caught:
                raise kind(*values)
            self.assertIs(type(caught.exception), kind)
            self.assert_fields(caught.exception, fields, values)

    def test_not_equal_to_values_of_other_kinds(self):
        for kind, _, fields in self.each():
            values = PAIRS[0][:len(fields)]
            for other in (None, 0, "", values, list(values), ValueError(*values)):
                self.assertFalse(kind(*values) == other)
                self.assertTrue(kind(*values) != other)


if __name__ == "__main__":
    unittest.main()
