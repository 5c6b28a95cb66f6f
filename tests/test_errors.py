import inspect
import unittest

from crateround import errors
from crateround.loads import Load

FIELDS = {
    ValueError: {
        "InvalidLoad": ["value"], "InvalidText": ["index"], "InvalidPair": ["index"],
        "InvalidWeighting": ["value"], "InvalidNote": ["field"], "InvalidDay": ["value"],
        "InvalidSettling": ["value"], "InvalidData": ["index"], "InvalidLimit": ["value"],
        "InvalidYard": ["field"], "Unfair": ["index"], "Uneven": ["house"], "Stuck": ["place"],
        "OtherPair": ["number"]},
    LookupError: {"NotASide": ["value"], "NoNote": ["number"], "OutOfRange": ["count"]},
    OverflowError: {"TooMany": ["most"]},
    RuntimeError: {"Closed": ["number"], "OverLimit": ["one", "other"]},
}
CASES = [(base, name, fields) for base, names in FIELDS.items() for name, fields in names.items()]
VALUES = [None, True, 0, -7, 10 ** 79, "box", b"x", (1, [2]), [{}], {"a": None}, Load(box=1)]


class ErrorsTest(unittest.TestCase):

    def test_all_errors_are_there_and_no_others(self):
        found = {name for name, value in vars(errors).items() if inspect.isclass(value)}
        self.assertEqual(found, {name for _, name, _ in CASES})

    def test_each_is_directly_below_its_python_error(self):
        for base, name, _ in CASES:
            with self.subTest(name):
                error = getattr(errors, name)
                self.assertEqual(error.__bases__, (base,))
                self.assertEqual(error.__module__, "crateround.errors")

    def test_fields_by_position(self):
        for base, name, fields in CASES:
            for value in VALUES:
                with self.subTest(name, value=value):
                    values = [value, "another"][:len(fields)]
                    self.check(getattr(errors, name)(*values), base, fields, values)

    def test_fields_by_name(self):
        for base, name, fields in CASES:
            for value in VALUES:
                with self.subTest(name, value=value):
                    values = [value, "another"][:len(fields)]
                    named = dict(reversed(list(zip(fields, values))))
                    self.check(getattr(errors, name)(**named), base, fields, values)

    def check(self, error, base, fields, values):
        self.assertIsInstance(error, base)
        for field, value in zip(fields, values):
            self.assertIs(getattr(error, field), value)

    def test_fields_must_be_passed(self):
        for _, name, fields in CASES:
            with self.subTest(name):
                error = getattr(errors, name)
                with self.assertRaises(TypeError):
                    error()
                with self.assertRaises(TypeError):
                    error(*range(len(fields) + 1))

    def test_they_are_raised_and_caught(self):
        with self.assertRaises(RuntimeError) as caught:
            raise errors.OverLimit("ann", other="bo")
        self.assertEqual((caught.exception.one, caught.exception.other), ("ann", "bo"))
        with self.assertRaises(LookupError):
            raise errors.OutOfRange(3)
        with self.assertRaises(OverflowError):
            raise errors.TooMany(most=8)


if __name__ == "__main__":
    unittest.main()
