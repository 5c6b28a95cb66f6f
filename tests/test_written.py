"""Point 45: written books."""

import random
import unittest

from crateround.books import Book
from crateround.errors import Closed, InvalidData, InvalidDay, InvalidNote, InvalidSettling, NoNote, NotASide
from crateround.errors import OtherPair, TooMany
from crateround.loads import Load
from bookcase import BIG, most, note_of, said
from helpers import any_values, halves
from test_history import full

FULL = (b"say ann 1 5 ann bo half 3\n"
        b"say bo 1 5 ann bo half 3\n"
        b"say ann 2 6 ann bo half 3\n"
        b"say ann 3 4 ann bo half 3\n"
        b"say bo 3 9 ann bo half 3\n"
        b"withdraw ann 2\n"
        b"say bo 2 6 ann bo half 3\n"
        b"close 6 2 - 3 bo\n"
        b"withdraw ann 3\n")
# Each line is of the form and is taken by a book that has the lines before it.
LINES = FULL.split(b"\n")[:-1]


class WritingTest(unittest.TestCase):

    def test_lines(self):
        self.assertEqual(full().written(), FULL)
        self.assertIs(type(full().written()), bytes)
        self.assertEqual(Book(halves()).written(), b"")

    def test_loads_days_and_numbers(self):
        book = said(("bo", note_of(10, -5, "bo", "ann", Load(tray=2, box=1))), ("ann", note_of(BIG, 0)))
        book.close(0, {BIG: "ann", 10: None})
        self.assertEqual(book.written(), b"say bo 10 -5 bo ann box 1 tray 2\nsay ann %d 0 ann bo half 3\n"
                                         b"close 0 10 - %d ann\n" % (BIG, BIG))
        book = Book(halves())
        book.close(-3, {})
        self.assertEqual(book.written(), b"close -3\n")

    def test_only_the_history(self):
        book = full()
        book.undo(4)
        self.assertEqual(book.written(), b"".join(line + b"\n" for line in LINES[:5]))
        book.redo(1)
        self.assertEqual(book.written(), b"".join(line + b"\n" for line in LINES[:6]))
        self.assertEqual(book.at(2).written(), b"".join(line + b"\n" for line in LINES[:2]))


class ReadingTest(unittest.TestCase):

    def check_read(self, data):
        book = Book.read(data, halves())
        self.assertIs(type(book), Book)
        self.assertEqual((book.written(), book.depth), (data, 0))
        self.assertEqual((most(book.undo, book.redo), most(book.redo, book.undo)), (data.count(b"\n"), 0))
        return book

    def check_form(self, data, index):
        """The data are refused for their form."""
        with self.assertRaises(InvalidData, msg=data) as caught:
            Book.read(data, halves())
        self.assertEqual(caught.exception.index, index, data)
        self.assertIsNone(caught.exception.__cause__, data)

    def check_refused(self, data, index, error, **fields):
        """The data are refused for an entry that raises this error."""
        with self.assertRaises(InvalidData, msg=data) as caught:
            Book.read(data, halves())
        self.assertEqual(caught.exception.index, index, data)
        cause = caught.exception.__cause__
        self.assertIs(type(cause), error, data)
        self.assertEqual(vars(cause), fields, data)

    def test_read_again(self):
        self.assertTrue(self.check_read(FULL) == full())
        self.assertTrue(self.check_read(b"") == Book(halves()))
        book = self.check_read(FULL)
        self.assertEqual((book.closed, book.status(1), book.status(2), book.standing("bo", 3)),
                         (6, "agreed", "void", note_of(3, 9)))
        book.say("ann", note_of(4, 7))
        self.assertEqual(book.written(), FULL + b"say ann 4 7 ann bo half 3\n")

    def test_by_chance(self):
        """Books of many entries, also of loads and houses of all sizes, read again."""
        chosen = random.Random(45)
        for _ in range(20):
            book = Book(halves())
            for _ in range(60):
                giver, taker = chosen.sample(["a", "ann", "bo", "zzzzzzzz"], 2)
                counts = {kind: chosen.choice([0, 1, 12, BIG]) for kind in ("a", "box", "zzzzzzzz")}
                note = note_of(chosen.choice([1, 2, 10, BIG]), chosen.choice([-BIG, -1, 0, 7, 80, BIG]), giver, taker,
                               Load.of(counts))
                try:
                    book.say(chosen.choice([giver, taker]), note)
                    if chosen.random() < 0.2:
                        book.withdraw(giver, note.number)
                    if chosen.random() < 0.05:
                        book.close(7, {number: None for number in book.numbers() if book.status(number) == "open"})
                except (Closed, OtherPair, NoNote, InvalidDay, InvalidSettling):
                    pass
            self.assertTrue(self.check_read(book.written()) == book)

    def test_80_and_81_digits(self):
        for digits in (80, 81):
            for number in (b"9" * digits, b"1" + b"0" * (digits - 1)):
                for sign in (b"", b"-"):
                    for data in (b"say ann 1 " + sign + number + b" ann bo half 3\n", b"close " + sign + number + b"\n"):
                        if digits == 80:
                            self.check_read(data)
                        else:
                            self.check_form(data, 0)
                for data in (b"say ann " + number + b" 5 ann bo half 3\n", b"say ann 1 5 ann bo half " + number + b"\n"):
                    if digits == 80:
                        self.check_read(data)
                        self.check_read(data + b"say ann 2 5 ann bo half 1\n")
                    else:
                        self.check_form(data, 0)
        said_great = b"say ann " + b"9" * 80 + b" 5 ann bo half 3\n"
        self.check_read(said_great + b"close 5 " + b"9" * 80 + b" ann\n")
        self.check_read(said_great + b"withdraw ann " + b"9" * 80 + b"\n")
        for line in (b"close 5 " + b"9" * 81 + b" ann\n", b"withdraw ann " + b"9" * 81 + b"\n",
                     b"withdraw ann -" + b"9" * 81 + b"\n"):
            self.check_form(said_great + line, 1)
        self.check_refused(said_great + b"withdraw ann -" + b"9" * 80 + b"\n", 1, NoNote, number=-BIG)
        # What is written with more digits cannot be read.
        book = said(("ann", note_of(10 ** 80, 5)))
        self.check_form(book.written(), 0)

    def test_what_is_not_bytes(self):
        for value in [value for value in any_values() if not isinstance(value, bytes)] + ["", FULL.decode(), [FULL]]:
            self.check_form(value, 0)
        self.check_form(b"box", 0)

    def test_lines_without_a_newline(self):
        for count in range(len(LINES)):
            before = b"".join(line + b"\n" for line in LINES[:count])
            self.check_form(before + LINES[count], count)
            self.check_form(before + b"x", count)
            self.check_form(before + b"\n", count)
            self.check_form(before + b" ", count)
        # A line that is refused comes ahead of it.
        self.check_refused(b"withdraw ann 1\n" + LINES[0], 0, NoNote, number=1)

    def test_data_bent_at_each_place(self):
        """Each byte left out, doubled, and replaced: the first line that is wrong is told."""
        starts = [sum(len(line) + 1 for line in LINES[:count]) for count in range(len(LINES))]
        refused = formless = taken = 0
        for place in range(len(FULL)):
            index = sum(start <= place for start in starts) - 1
            bents = [FULL[:place] + bent + FULL[place + 1:] for bent in (
                b"", FULL[place:place + 1] * 2, b" ", b"\n", b"-", b"0", b"7", b"x", b"A", b"\t", b"\r", b"\x00", b"\xe4",
                b"\xff")]
            for data in bents:
                try:
                    found = Book.read(data, halves())
                except InvalidData as error:
                    self.assertGreaterEqual(error.index, index, data)
                    formless += error.__cause__ is None
                    refused += error.__cause__ is not None
                    self.check_first_wrong(data, error)
                else:
                    taken += 1
                    self.assertEqual(found.written(), data)
        self.assertGreater(min(refused, formless, taken), 100)

    def check_first_wrong(self, data, error):
        """The lines before the index are taken, and the next one is not."""
        lines = data.split(b"\n")
        before = b"".join(line + b"\n" for line in lines[:error.index])
        self.assertEqual(Book.read(before, halves()).written(), before)
        self.assertLess(error.index, len(lines))
        if error.index < len(lines) - 1:
            with self.assertRaises(InvalidData) as caught:
                Book.read(before + lines[error.index] + b"\n", halves())
            self.assertEqual(caught.exception.index, error.index)
            self.assertIs(type(caught.exception.__cause__), type(error.__cause__))

    def test_forms_of_saying(self):
        for line in (b"say", b"say ", b"say ann", b"say ann 1 5 ann bo", b"say ann 1 5 ann bo ", b"say ann 1 5 ann bo half",
                     b"say ann 1 5 ann bo half ", b"say ann 1 5 ann bo half 3 ", b"say ann 1 5 ann bo  half 3",
                     b" say ann 1 5 ann bo half 3", b"say  ann 1 5 ann bo half 3", b"say ann 01 5 ann bo half 3",
                     b"say ann +1 5 ann bo half 3", b"say ann 1 -0 ann bo half 3", b"say ann 1 05 ann bo half 3",
                     b"say ann 1 - ann bo half 3", b"say ann  5 ann bo half 3", b"say ann 1_0 5 ann bo half 3",
                     b"say Ann 1 5 ann bo half 3", b"say ann 1 5 Ann bo half 3", b"say ann 1 5 ann b0 half 3",
                     b"say ann 1 5 ann bo half 0", b"say ann 1 5 ann bo half 03", b"say ann 1 5 ann bo half 3 box 1",
                     b"say ann 1 5 ann bo half 3 half 3", b"say ann 1 5 ann bo half -", b"say ann 1 5 ann bo - ",
                     b"say ann 1 5 ann bo -1", b"say ann 1 5 ann bo --", b"say - 1 5 ann bo half 3",
                     b"say ninechars 1 5 ann bo half 3", b"say ann 1 5 ann ninechars half 3", b"SAY ann 1 5 ann bo half 3",
                     b"said ann 1 5 ann bo half 3", b"say ann 1 5 ann bo half 3\r", b"say ann 1.0 5 ann bo half 3",
                     b"say ann 1 5 ann bo\thalf 3", b"say \xe4 1 5 ann bo half 3", b"say ann 1 5 ann bo half \xb2",
                     b"say ann \xd9\xa1 5 ann bo half 3", b"say ann True 5 ann bo half 3"):
            self.check_form(line + b"\n", 0)
            self.check_form(FULL + line + b"\n" + FULL, len(LINES))

    def test_forms_of_withdrawing_and_closing(self):
        for line in (b"withdraw", b"withdraw ann", b"withdraw ann ", b"withdraw ann 1 ", b"withdraw ann 1 2",
                     b"withdraw  ann 1", b"withdraw ann 01", b"withdraw ann -0", b"withdraw ann x", b"withdraw - 1",
                     b"withdraw Ann 1", b"withdraw 1 ann", b"withdrawann 1", b"with ann 1",
                     b"close", b"close ", b"close x", b"close 05", b"close -0", b"close +5", b"close 5 ", b"close 5 1",
                     b"close 5 1 ", b"close 5 1 ann ", b"close 5 1 ann 2", b"close 5  1 ann", b"close 5 01 ann",
                     b"close 5 1 Ann", b"close 5 1 --", b"close 5 1 None", b"close 5 ann 1", b"close 5 1 ninechars",
                     b"close 5 2 ann 1 ann", b"close 5 1 ann 1 ann", b"close 5 1 - 1 -", b"close 5 10 ann 9 ann",
                     b"close 5 -1 - -2 -", b"close 5 0 - -1 -", b"close - 1 ann", b"undo", b"redo 1", b"x", b"-", b"5"):
            self.check_form(line + b"\n", 0)
            self.check_form(FULL + line + b"\n", len(LINES))

    def test_entries_that_are_refused(self):
        for line, error, fields in [
                (b"say ann 0 5 ann bo half 3", InvalidNote, {"field": "number"}),
                (b"say ann -7 5 ann bo half 3", InvalidNote, {"field": "number"}),
                (b"say ann 1 5 ann ann half 3", InvalidNote, {"field": "taker"}),
                (b"say ann 1 5 ann bo -", InvalidNote, {"field": "load"}),
                (b"say ann 1 5 ann bo half -3", InvalidNote, {"field": "load"}),
                (b"say ann 1 5 ann bo half 3 whole -1", InvalidNote, {"field": "load"}),
                (b"say cy 0 5 ann bo -", InvalidNote, {"field": "number"}),
                (b"say cy 1 5 ann bo half 3", NotASide, {"value": "cy"}),
                (b"withdraw ann 1", NoNote, {"number": 1}), (b"withdraw ann 0", NoNote, {"number": 0}),
                (b"withdraw ann -5", NoNote, {"number": -5}),
                (b"close 5 1 ann", InvalidSettling, {"value": 1}),
                (b"close 5 -2 - 0 ann 7 bo", InvalidSettling, {"value": -2})]:
            self.check_refused(line + b"\n", 0, error, **fields)
            # What follows does not matter, whatever its form.
            self.check_refused(line + b"\nx\n", 0, error, **fields)
            self.check_refused(line + b"\n" + line, 0, error, **fields)
        for line, error, fields in [
                (b"say cy 1 9 cy bo half 3", OtherPair, {"number": 1}), (b"say ann 9 6 ann bo half 3", Closed, {"number": 9}),
                (b"say bo 3 5 ann bo half 3", Closed, {"number": 3}), (b"withdraw ann 1", Closed, {"number": 1}),
                (b"withdraw ann 3", NoNote, {"number": 3}), (b"close 6", InvalidDay, {"value": 6}),
                (b"close -6", InvalidDay, {"value": -6}), (b"close 9", InvalidSettling, {"value": 3}),
                (b"close 9 3 ann", InvalidSettling, {"value": 3}), (b"close 8 3 bo", InvalidSettling, {"value": 3}),
                (b"close 9 2 - 3 -", InvalidSettling, {"value": 2}), (b"close 9 1 ann", InvalidSettling, {"value": 3})]:
            self.check_refused(FULL + line + b"\n", len(LINES), error, **fields)
            self.check_refused(FULL + line + b"\nx", len(LINES), error, **fields)
            self.check_form(b"x\n" + FULL + line + b"\n", 0)
        self.check_read(FULL + b"close 9 3 bo\n")
        self.check_read(FULL + b"close 9 3 -\n")
        self.check_read(FULL + b"close 8\n")

    def test_other_classes_and_arguments(self):
        class Other(Book):
            """A book of another class, made from more arguments."""

            def __init__(self, exchanges, more, most_of_all=0):
                if more is None:
                    raise TooMany(8)
                Book.__init__(self, exchanges)
                self.more = more, most_of_all
        book = Other.read(FULL, halves(), 3, 4)
        self.assertEqual((type(book), book.more, book.written()), (Other, (3, 4), FULL))
        self.assertIs(type(book.at(3)), Book)
        for data in (FULL, b"x", None, b"withdraw ann 1\n"):
            with self.assertRaises(TooMany) as caught:
                Other.read(data, halves(), None)
            self.assertIsNone(caught.exception.__cause__)
        self.assertEqual(Book.read(b"", halves()).exchanges.pairs, halves().pairs)
        self.assertTrue(Other.read(b"", halves(), 1) == Other(halves(), 2))


if __name__ == "__main__":
    unittest.main()
