"""Point 43: closing days."""

import unittest

from crateround.books import Book
from crateround.errors import Closed, InvalidDay, InvalidSettling
from crateround.loads import Load
from bookcase import BIG, BookCase, agreed, note_of, said
from helpers import any_values, halves


def mixed():
    """1 is agreed, 2 open, 3 unlike, 4 void, 5 open but later, 6 unlike with one note up to day 5."""
    book = agreed(note_of(1, 5))
    book.say("bo", note_of(2, 5))
    book.say("ann", note_of(3, 4))
    book.say("bo", note_of(3, 5))
    book.say("ann", note_of(4, 5))
    book.withdraw("ann", 4)
    book.say("ann", note_of(5, 6))
    book.say("ann", note_of(6, 9))
    book.say("bo", note_of(6, 5))
    return book


class ClosingTest(BookCase):

    def test_what_becomes_of_the_numbers(self):
        book = mixed()
        self.assertIsNone(book.close(day=5, settling={2: "bo", 3: "ann", 6: "ann"}))
        self.assertEqual(book.closed, 5)
        self.assertEqual([book.status(number) for number in range(1, 7)],
                         ["agreed", "agreed", "agreed", "void", "open", "agreed"])
        for number, note in [(2, note_of(2, 5)), (3, note_of(3, 4)), (6, note_of(6, 9))]:
            self.assertEqual((book.standing("ann", number), book.standing("bo", number)), (note, note))
        self.assertEqual(book.balance("ann", "bo", 5, exact=True), Load(half=9))
        self.assertEqual(book.balance("ann", "bo", 9, exact=True), Load(half=12))

    def test_none_makes_void(self):
        book = mixed()
        book.close(5, {2: None, 3: "bo", 6: "bo"})
        self.assertEqual((book.status(2), book.standing("bo", 2), book.numbers()), ("void", None, [1, 3, 5, 6]))
        self.assertEqual(book.standing("ann", 3), note_of(3, 5))
        # It can be said again, later.
        self.assertIsNone(book.say("ann", note_of(2, 6)))

    def test_days_in_turn(self):
        book = mixed()
        book.close(-3, {})
        book.close(4, {3: "ann"})
        book.close(5, {2: None, 6: "ann"})
        book.close(6, {5: "ann"})
        book.close(9, {})
        self.assertEqual(book.closed, 9)
        self.assertEqual([book.status(number) for number in range(1, 7)],
                         ["agreed", "void", "agreed", "void", "agreed", "agreed"])
        self.assertEqual([entry for entry in book.history() if entry[0] == "close"],
                         [("close", -3, ()), ("close", 4, ((3, "ann"),)), ("close", 5, ((2, None), (6, "ann"))),
                          ("close", 6, ((5, "ann"),)), ("close", 9, ())])

    def test_entries_are_ascending_and_copied(self):
        book = mixed()
        settling = {6: "ann", 2: None, 3: "bo"}
        book.close(5, settling)
        self.assertEqual(list(settling), [6, 2, 3])
        settling.clear()
        self.assertEqual(book.history()[-1], ("close", 5, ((2, None), (3, "bo"), (6, "ann"))))

    def test_a_chosen_note_of_a_later_day(self):
        book = mixed()
        book.close(5, {2: "bo", 3: "ann", 6: "ann"})
        self.assertIsNone(book.withdraw("bo", 6))
        self.assertEqual(book.status(6), "open")
        self.assertIsNone(book.say("bo", note_of(6, 7)))
        self.assertEqual(book.status(6), "unlike")
        self.check_refused(book, Closed, "number", 6, book.say, "ann", note_of(6, 5))
        for house in ("ann", "bo"):
            for number in (1, 2, 3):
                self.check_refused(book, Closed, "number", number, book.withdraw, house, number)
                self.check_refused(book, Closed, "number", number, book.say, house, note_of(number, 6))

    def test_days(self):
        book = mixed()
        for day in [value for value in any_values() if type(value) is not int] + [Load(a=1), halves(), note_of(), book]:
            self.check_refused(book, InvalidDay, "value", day, book.close, day, {})
        book.close(-7, {})
        for day in (-7, -8, -BIG, True):
            self.check_refused(book, InvalidDay, "value", day, book.close, day, {})
        book.close(-6, {})
        self.assertEqual(book.closed, -6)
        book = Book(halves())
        for day in (-BIG, 0, BIG, 10 ** 80):
            book.close(day, {})
            self.assertEqual(book.closed, day)

    def test_settlings_that_are_none(self):
        book = mixed()
        right = {2: "bo", 3: "ann", 6: "ann"}
        wrong = [value for value in any_values() if value not in ({}, {1: "a"})]
        wrong += [[(2, "bo"), (3, "ann"), (6, "ann")], ((2, "bo"),), {**right, "1": None}, {**right, None: None},
                  {True: None, **right}, {**right, (2,): "bo"}, {**right, b"2": None}, Load(a=1), halves(), note_of(), book]
        for settling in wrong:
            self.check_refused(book, InvalidSettling, "value", settling, book.close, 5, settling)

    def test_numbers_that_are_missing_or_have_another_value(self):
        book = mixed()
        for settling, number in [
                ({}, 2), ({3: "ann", 6: "ann"}, 2), ({2: "bo", 6: "ann"}, 3), ({2: "bo", 3: "bo"}, 6),
                ({2: "ann", 3: "ann", 6: "ann"}, 2), ({2: "cy", 3: "ann", 6: "ann"}, 2), ({6: "cy", 3: None, 2: None}, 3),
                ({2: "bo", 3: None, 6: "ann"}, 3), ({2: "bo", 3: "ann", 6: None}, 6), ({6: 1, 3: "cy", 2: "bo"}, 3)]:
            self.check_refused(book, InvalidSettling, "value", number, book.close, 5, settling)
        for value in [*any_values(), Load(a=1), halves(), note_of(), book, ["bo"], ("bo",), b"bo", "ann bo"]:
            if value is not None:
                self.check_refused(book, InvalidSettling, "value", 2, book.close, 5, {2: value, 3: "ann", 6: "ann"})
            self.check_refused(book, InvalidSettling, "value", 3, book.close, 5, {2: "bo", 3: value, 6: "ann"})

    def test_numbers_that_are_not_due(self):
        book = mixed()
        right = {2: "bo", 3: "ann", 6: "ann"}
        for others, number in [({1: "ann"}, 1), ({4: None}, 4), ({5: "ann"}, 5), ({7: None, 1: "bo"}, 1), ({0: None}, 0),
                               ({-1: [], 4: None}, -1), ({9: Load(), 7: None}, 7), ({5: None}, 5)]:
            self.check_refused(book, InvalidSettling, "value", number, book.close, 5, {**others, **right})
            self.check_refused(book, InvalidSettling, "value", number, book.close, 5, {**right, **others})
        # A number that is due and wrong comes ahead of one that is not due, whatever their order.
        self.check_refused(book, InvalidSettling, "value", 3, book.close, 5, {1: "ann", 2: "bo", 6: "ann"})
        self.check_refused(book, InvalidSettling, "value", 6, book.close, 5, {0: None, 2: "bo", 3: "ann", 6: "cy"})
        big = 10 ** 79
        self.check_refused(book, InvalidSettling, "value", big, book.close, 5, {big: None, **right})

    def test_the_day_comes_first(self):
        book = mixed()
        for settling in (None, {"1": None}, {}, {7: None}):
            self.check_refused(book, InvalidDay, "value", "5", book.close, "5", settling)

    def test_due_at_a_day(self):
        for day, due in [(3, {}), (4, {3: "ann"}), (5, {2: None, 3: "ann", 6: "bo"}),
                         (6, {2: None, 3: "ann", 5: None, 6: "bo"}), (9, {2: None, 3: "ann", 5: None, 6: "bo"})]:
            book = mixed()
            self.assertIsNone(book.close(day, due))
            for number in due:
                book = mixed()
                less = {key: due[key] for key in due if key != number}
                self.check_refused(book, InvalidSettling, "value", number, book.close, day, less)

    def test_exchanged_sides(self):
        """The chosen note goes to both houses of the number, whichever of them gives in it."""
        one, back = note_of(1, 5), note_of(1, 5, "bo", "ann", Load(rack=1))
        for house, note in (("ann", one), ("bo", back)):
            book = said(("ann", one), ("bo", back))
            book.close(5, {1: house})
            self.assertEqual((book.status(1), book.standing("ann", 1), book.standing("bo", 1)), ("agreed", note, note))
        book = said(("bo", back))
        book.close(7, {1: "bo"})
        self.assertEqual((book.status(1), book.balance("bo", "ann", exact=True)), ("agreed", Load(rack=1)))


if __name__ == "__main__":
    unittest.main()
