"""Point 44: history, attempts and explorations."""

import unittest

from crateround.books import Book
from crateround.errors import Closed, InvalidDay, NoNote, NotASide, OtherPair, OutOfRange
from crateround.exchanges import Exchanges
from crateround.loads import Load
from bookcase import BIG, BookCase, agreed, most, note_of, said, seen
from helpers import any_values, halves


class Wanted(Exception):
    """What an action raises."""


def full():
    """A book with entries of all three kinds."""
    book = agreed(note_of(1, 5))
    book.say("ann", note_of(2, 6))
    book.say("ann", note_of(3, 4))
    book.say("bo", note_of(3, 9))
    book.withdraw("ann", 2)
    book.say("bo", note_of(2, 6))
    book.close(6, {2: None, 3: "bo"})
    book.withdraw("ann", 3)
    return book


ENTRIES = (
    ("say", "ann", note_of(1, 5)), ("say", "bo", note_of(1, 5)), ("say", "ann", note_of(2, 6)),
    ("say", "ann", note_of(3, 4)), ("say", "bo", note_of(3, 9)), ("withdraw", "ann", 2), ("say", "bo", note_of(2, 6)),
    ("close", 6, ((2, None), (3, "bo"))), ("withdraw", "ann", 3))


def shown(book):
    """What a book shows of its notes."""
    return seen(book)[:8]


class HistoryTest(BookCase):

    def test_history(self):
        book = full()
        self.assertEqual(book.history(), ENTRIES)
        self.assertIs(type(book.history()), tuple)
        self.assertEqual(Book(halves()).history(), ())

    def test_refused_entries_are_none(self):
        book = full()
        for call in (lambda: book.say("cy", note_of()), lambda: book.say("ann", note_of()),
                     lambda: book.say("cy", note_of(giver="cy")), lambda: book.withdraw("ann", 3),
                     lambda: book.close(6, {}), lambda: book.undo(99), lambda: book.redo()):
            with self.assertRaises((NotASide, Closed, OtherPair, NoNote, InvalidDay, OutOfRange)):
                call()
        self.assertEqual(book.history(), ENTRIES)

    def test_undo_and_redo(self):
        book = full()
        states = [shown(book.at(count)) for count in range(len(ENTRIES) + 1)]
        self.assertEqual(len({repr(state[1]) for state in states}), len(ENTRIES) + 1)
        for count in reversed(range(len(ENTRIES))):
            self.assertIsNone(book.undo())
            self.assertEqual(shown(book), states[count])
        for count in range(1, len(ENTRIES) + 1):
            self.assertIsNone(book.redo())
            self.assertEqual(shown(book), states[count])
        for back in range(len(ENTRIES) + 1):
            for again in range(back + 1):
                book = full()
                book.undo(count=back)
                book.redo(count=again)
                self.assertEqual(shown(book), states[len(ENTRIES) - back + again])
                self.assertEqual((most(book.undo, book.redo), most(book.redo, book.undo)),
                                 (len(ENTRIES) - back + again, back - again))

    def test_across_closing(self):
        book = full()
        book.undo(2)
        self.assertEqual((book.closed, book.status(2), book.status(3)), (None, "open", "unlike"))
        self.assertEqual((book.standing("ann", 3), book.standing("bo", 3)), (note_of(3, 4), note_of(3, 9)))
        self.assertIsNone(book.withdraw("ann", 1))
        book = full()
        book.close(20, {3: "bo"})
        book.undo(2)
        self.assertEqual(book.closed, 6)
        book.redo(2)
        self.assertEqual((book.closed, book.standing("ann", 3)), (20, note_of(3, 9)))

    def test_a_new_entry_ends_what_can_be_redone(self):
        entries = [lambda book: book.say("ann", note_of(7)), lambda book: book.withdraw("ann", 3),
                   lambda book: book.close(4, {3: "bo"})]
        for entry in entries:
            book = full()
            book.undo(3)
            entry(book)
            self.check_refused(book, OutOfRange, "count", 1, book.redo)
            book.undo(1)
            self.assertEqual(most(book.redo, book.undo), 1)
        # Nothing else ends it: what is refused, counts of 0, and what only looks.
        book = full()
        book.undo(3)
        with self.assertRaises(NotASide):
            book.say("cy", note_of())
        book.undo(0)
        book.redo(0)
        book.at(2), book.written(), book.history(), book.balances()
        book.explore(lambda inner: inner.say("ann", note_of(9)))
        book.redo(3)
        self.assertEqual(book.history(), ENTRIES)

    def test_counts(self):
        book = full()
        book.undo(4)
        others = [value for value in any_values() if type(value) is not int] + [Load(a=1), halves(), note_of(), book]
        for call, wrong in [(book.undo, [-1, 6, BIG]), (book.redo, [-1, 5, BIG]), (book.at, [-1, 6, 9, BIG])]:
            for count in [*wrong, *others]:
                self.check_refused(book, OutOfRange, "count", count, call, count)
        self.assertEqual((book.at(5).history(), book.at(count=0).history()), (ENTRIES[:5], ()))
        empty = Book(halves())
        self.check_refused(empty, OutOfRange, "count", 1, empty.undo)
        self.check_refused(empty, OutOfRange, "count", 1, empty.redo)
        self.check_refused(empty, OutOfRange, "count", 1, empty.at, 1)
        self.assertEqual((empty.undo(0), empty.redo(0), empty.at(0)), (None, None, empty))


class AtTest(BookCase):

    def test_earlier_books(self):
        book = full()
        for count in range(len(ENTRIES) + 1):
            early = book.at(count)
            self.assertIs(type(early), Book)
            self.assertEqual((early.history(), early.depth), (ENTRIES[:count], 0))
            self.assertEqual((most(early.undo, early.redo), most(early.redo, early.undo)), (count, 0))
            self.assertEqual(early.exchanges.pairs, book.exchanges.pairs)
        self.assertEqual(book.at(6).status(2), "void")
        self.assertEqual((book.at(8).closed, book.at(7).closed), (6, None))

    def test_books_apart(self):
        book = full()
        book.undo(1)
        early = book.at(5)
        early.undo(3)
        early.say("cy", note_of(9, giver="cy"))
        self.assertEqual(book.history(), ENTRIES[:8])
        book.undo(8)
        self.assertEqual(early.history(), (*ENTRIES[:2], ("say", "cy", note_of(9, giver="cy"))))
        book.redo(9)
        self.assertEqual(book.history(), ENTRIES)

    def test_below_the_class(self):
        class Other(Book):
            """A book of another class."""
        book = Other(halves())
        book.say("ann", note_of())
        self.assertIs(type(book.at(1)), Book)
        self.assertFalse(book.at(1) == book)

    def test_within_an_attempt(self):
        book = full()
        book.undo(2)

        def action(inner):
            early = inner.at(3)
            self.assertEqual((early.depth, inner.depth), (0, 1))
            early.undo(3)
            self.check_refused(early, OutOfRange, "count", 4, early.redo, 4)
            early.redo(3)
            self.assertEqual(inner.at(7).history(), ENTRIES[:7])
            self.check_refused(inner, OutOfRange, "count", 8, inner.at, 8)
            return early
        self.assertEqual(book.attempt(action).history(), ENTRIES[:3])


class AttemptTest(BookCase):

    def test_what_is_returned(self):
        book = full()
        for call in (book.attempt, book.explore):
            for value in [*any_values(), book]:
                self.assertIs(call(lambda inner: value), value)
            self.assertIs(call(lambda inner: inner), book)
            self.assertIs(call(action=lambda inner: inner), book)
            self.assertIsNone(call(lambda inner: None))
        self.assertEqual(book.history(), ENTRIES)

    def test_entries_stay_one_by_one(self):
        book = full()

        def action(inner):
            inner.say("ann", note_of(8, 10))
            inner.say("bo", note_of(8, 10))
            inner.close(7, {})
            return inner.closed
        self.assertEqual(book.attempt(action), 7)
        self.assertEqual(len(book.history()), len(ENTRIES) + 3)
        self.assertEqual((book.status(8), book.closed), ("agreed", 7))
        book.undo()
        self.assertEqual((book.status(8), book.closed), ("agreed", 6))
        book.undo()
        self.assertEqual(book.status(8), "open")
        book.undo(5)
        self.assertEqual(book.history(), ENTRIES[:5])
        book.redo(7)
        self.assertEqual(book.closed, 7)

    def test_errors_take_everything_back(self):
        def action(inner):
            inner.say("ann", note_of(8, 10))
            inner.withdraw("bo", 1 if inner.closed is None else 3)
            inner.undo(1)
            inner.say("bo", note_of(8, 11))
            raise Wanted(inner.status(8))
        for undone in range(4):
            book = full()
            book.undo(undone)
            before = seen(book)
            with self.assertRaises(Wanted) as caught:
                book.attempt(action)
            self.assertEqual((caught.exception.args, seen(book)), (("unlike",), before))

    def test_any_error(self):
        class Odd(BaseException):
            """An error that is no Exception."""
        book = full()
        before = seen(book)
        for error in (Wanted, ValueError, KeyError, ZeroDivisionError, StopIteration, KeyboardInterrupt, Odd,
                      RecursionError, GeneratorExit):
            def action(inner):
                inner.undo(0)
                inner.say("ann", note_of(8, 10))
                raise error("x")
            for call in (book.attempt, book.explore):
                with self.assertRaises(error):
                    call(action)
                self.assertEqual(seen(book), before)
        # Errors of the book's own too, and those of something that cannot be called so.
        for call in (book.attempt, book.explore):
            with self.assertRaises(OtherPair) as caught:
                call(lambda inner: [inner.say("ann", note_of(8, 10)), inner.say("cy", note_of(8, 10, "cy", "di"))])
            self.assertEqual(caught.exception.number, 8)
            with self.assertRaises(TypeError):
                call(lambda: None)
            with self.assertRaises(TypeError):
                call(None)
            self.assertEqual(seen(book), before)

    def test_explorations_take_everything_back(self):
        book = full()
        book.undo(2)
        before = seen(book)

        def action(inner):
            inner.redo(1)
            inner.undo(1)
            inner.say("ann", note_of(8, 10))
            inner.say("bo", note_of(8, 10))
            inner.undo(1)
            inner.close(6, {2: "bo", 3: "ann"})
            return inner.status(8), inner.status(2), inner.closed, len(inner.history())
        self.assertEqual(book.explore(action), ("open", "agreed", 6, 9))
        self.assertEqual(seen(book), before)
        book.redo(2)
        self.assertEqual(book.history(), ENTRIES)

    def test_depth(self):
        book = full()
        depths = []

        def down(inner):
            depths.append(inner.depth)
            if inner.depth < 5:
                (inner.attempt if inner.depth % 2 else inner.explore)(down)
            depths.append(inner.depth)
            if inner.depth == 4:
                raise Wanted
        with self.assertRaises(Wanted):
            book.attempt(down)
        self.assertEqual(depths, [1, 2, 3, 4, 5, 5, 4])
        self.assertEqual(book.depth, 0)

    def test_only_its_own_entries_can_be_undone(self):
        for call in ("attempt", "explore"):
            book = full()
            book.undo(3)

            def action(inner):
                self.check_refused(inner, OutOfRange, "count", 1, inner.undo)
                inner.undo(0)
                # What was undone before can be redone, and undone again then.
                inner.redo(2)
                self.check_refused(inner, OutOfRange, "count", 3, inner.undo, 3)
                inner.undo(2)
                self.check_refused(inner, OutOfRange, "count", 1, inner.undo, 1)
                inner.redo(3)
                inner.say("ann", note_of(8, 10))
                self.check_refused(inner, OutOfRange, "count", 5, inner.undo, 5)
                inner.undo(4)
                inner.redo(4)
                self.check_refused(inner, OutOfRange, "count", 1, inner.redo)
                return len(inner.history())
            self.assertEqual(getattr(book, call)(action), len(ENTRIES) + 1)
            if call == "attempt":
                self.assertEqual(most(book.undo, book.redo), len(ENTRIES) + 1)
            else:
                self.assertEqual(most(book.redo, book.undo), 3)
                self.assertEqual(book.history(), ENTRIES[:6])

    def test_attempts_within_each_other(self):
        book = full()

        def inside(inner):
            self.check_refused(inner, OutOfRange, "count", 1, inner.undo)
            inner.say("bo", note_of(8, 10))
            inner.undo(1)
            inner.redo(1)
            inner.say("bo", note_of(9, 10))

        def fails(inner):
            inside(inner)
            raise Wanted

        def action(inner):
            inner.say("ann", note_of(8, 10))
            self.assertIsNone(inner.attempt(inside))
            self.assertEqual((inner.status(8), inner.status(9)), ("agreed", "open"))
            # What the attempt within performed can be undone here.
            inner.undo(2)
            self.assertEqual((inner.status(8), inner.status(9)), ("open", "void"))
            before = seen(inner)
            for call in (inner.attempt, inner.explore):
                with self.assertRaises(Wanted):
                    call(fails)
                self.assertEqual(seen(inner), before)
            inner.explore(inside)
            self.assertEqual(seen(inner), before)
            inner.redo(1)
        book.attempt(action)
        self.assertEqual([entry[:2] for entry in book.history()[len(ENTRIES):]], [("say", "ann"), ("say", "bo")])
        self.assertEqual((book.status(8), book.status(9), book.depth), ("agreed", "void", 0))
        book.redo(1)
        self.assertEqual(book.status(9), "open")

    def test_an_error_outside_takes_back_what_was_kept_inside(self):
        book = full()
        book.undo(1)
        before = seen(book)

        def action(inner):
            inner.attempt(lambda deep: deep.redo(1))
            inner.attempt(lambda deep: deep.say("ann", note_of(8, 10)))
            raise Wanted
        with self.assertRaises(Wanted):
            book.attempt(action)
        self.assertEqual(seen(book), before)
        book.explore(lambda inner: inner.attempt(lambda deep: deep.redo(1)))
        self.assertEqual(seen(book), before)

    def test_a_caught_error(self):
        book = full()

        def action(inner):
            inner.say("ann", note_of(8, 10))
            try:
                inner.attempt(lambda deep: [deep.say("bo", note_of(8, 10)), deep.withdraw("bo", 99)])
            except NoNote as error:
                return error.number
        self.assertEqual(book.attempt(action), 99)
        self.assertEqual((book.status(8), len(book.history())), ("open", len(ENTRIES) + 1))


class EqualTest(unittest.TestCase):

    def test_equal_books(self):
        self.assertTrue(full() == full())
        self.assertFalse(full() != full())
        self.assertTrue(Book(halves()) == Book(halves()))
        # What can be redone, and how the history came about, mean nothing.
        book = full()
        book.undo(3)
        self.assertTrue(book == full().at(6))
        self.assertTrue(book.explore(lambda inner: inner == full().at(6)))

    def test_histories(self):
        book = full()
        for count in range(len(ENTRIES)):
            self.assertFalse(book == book.at(count))
        one, other = note_of(1), note_of(2)
        self.assertFalse(said(("ann", one), ("ann", other)) == said(("ann", other), ("ann", one)))
        self.assertFalse(said(("ann", one)) == said(("bo", one)))
        self.assertFalse(said(("ann", one)) == said(("ann", note_of(1, load=Load(half=2)))))
        self.assertFalse(said(("ann", one), ("ann", one)) == said(("ann", one)))
        book, like = said(("ann", one)), said(("ann", one))
        book.close(6, {1: "ann"})
        like.close(6, {1: None})
        self.assertFalse(book == like)

    def test_rules(self):
        pairs = halves().pairs
        self.assertTrue(Book(Exchanges(*pairs)) == Book(halves()))
        # The same equivalent loads, but other pairs.
        for rules in (Exchanges(*reversed(pairs)), Exchanges(*pairs, pairs[0]), halves().reduced(), Exchanges()):
            self.assertFalse(Book(rules) == Book(halves()))

    def test_other_values(self):
        class Other(Book):
            """A book of another class."""
        book = full()
        for value in [*any_values(), halves(), note_of(), Load(a=1), book.history(), book.written(), Other(halves())]:
            self.assertFalse(book == value)
            self.assertFalse(value == book)
            self.assertTrue(book != value)
        self.assertFalse(Book(halves()) == Other(halves()))
        self.assertTrue(Other(halves()) == Other(halves()))


if __name__ == "__main__":
    unittest.main()
