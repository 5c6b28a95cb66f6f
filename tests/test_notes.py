"""Point 40: notes."""

import unittest

from crateround.errors import InvalidNote
from crateround.loads import Load
from crateround.notes import Note
from helpers import NOTHING, any_values, halves

FIELDS = ["number", "day", "giver", "taker", "load"]
BIG = 10 ** 80 - 1


def good(**others):
    return {"number": 1, "day": 5, "giver": "ann", "taker": "bo", "load": Load(half=3), **others}


class NotesTest(unittest.TestCase):

    def check_refused(self, field, **fields):
        with self.assertRaises(InvalidNote, msg=fields) as caught:
            Note(**good(**fields))
        self.assertEqual(caught.exception.field, field)

    def test_attributes(self):
        for fields in (good(), good(number=BIG, day=-BIG, giver="a", taker="z" * 8, load=Load(a=BIG, b=1)),
                       good(day=0), good(number=10 ** 81, day=-10 ** 90)):
            note = Note(**fields)
            self.assertEqual({field: getattr(note, field) for field in FIELDS}, fields)
            note = Note(*fields.values())
            self.assertEqual({field: getattr(note, field) for field in FIELDS}, fields)
            self.assertLessEqual({*FIELDS}, {*vars(note)})

    def test_each_field(self):
        others = [*any_values(), halves(), Note(**good())]
        integers = [value for value in others if type(value) is int]
        words = [value for value in others if type(value) is str and value]
        for value in others:
            for field in FIELDS:
                fine = {"number": value in integers and type(value) is int and value > 0,
                        "day": value in integers and type(value) is int,
                        "giver": value in words, "taker": value in words, "load": False}[field]
                if fine:
                    self.assertEqual(getattr(Note(**good(**{field: value})), field), value)
                else:
                    self.check_refused(field, **{field: value})

    def test_numbers_and_days(self):
        for value in (0, -1, -BIG, True, "1", 10 ** 79 * -1):
            self.check_refused("number", number=value)
        for value in (True, False, None, "5", b"5", (5,), [5], Load(day=5)):
            self.check_refused("day", day=value)

    def test_houses(self):
        for value in ("", "Ann", "a b", "a1", "a-", "-", "ninechars", "b\u00e4r", "ann\n", b"ann", ["ann"], ("ann",)):
            self.check_refused("giver", giver=value)
            self.check_refused("taker", taker=value)
        self.check_refused("taker", taker="ann")
        self.check_refused("taker", giver="bo")

    def test_loads(self):
        for value in (NOTHING, Load(half=0), Load(half=-1), Load(half=3, box=-1), {"half": 3}, "half 3"):
            self.check_refused("load", load=value)

    def test_the_first_wrong_field_is_told(self):
        wrong = {"number": 0, "day": None, "giver": 1, "taker": [], "load": NOTHING}
        for first in range(len(FIELDS)):
            for last in range(first, len(FIELDS)):
                self.check_refused(FIELDS[first], **{field: wrong[field] for field in FIELDS[first:last + 1]})
                self.check_refused(FIELDS[first], **{field: wrong[field] for field in {FIELDS[first], FIELDS[last]}})
        # The same wrong value as giver and as taker.
        self.check_refused("giver", giver=None, taker=None)

    def test_equal(self):
        note = Note(**good())
        self.assertTrue(note == Note(1, 5, "ann", "bo", Load(box=0, half=3)))
        self.assertFalse(note != Note(**good()))
        for fields in ({"number": 2}, {"day": 6}, {"giver": "cy"}, {"taker": "cy"}, {"load": Load(half=4)},
                       {"load": Load(half=3, box=1)}, {"giver": "bo", "taker": "ann"}):
            self.assertFalse(note == Note(**good(**fields)))
            self.assertTrue(note != Note(**good(**fields)))
        for value in [*any_values(), Load(half=3), halves(), tuple(good().values()), good()]:
            self.assertFalse(note == value)
            self.assertFalse(value == note)


if __name__ == "__main__":
    unittest.main()
