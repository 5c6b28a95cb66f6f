"""Point 60, and what points 44 and 45 say of books of all classes."""

import itertools
import random
import unittest

from crateround.books import Book
from crateround.errors import Closed, InvalidData, InvalidDay, InvalidLimit, InvalidNote, InvalidSettling, NoNote
from crateround.errors import NotASide, OtherPair, OutOfRange, OverLimit, Unfair
from crateround.exchanges import Exchanges
from crateround.guards import CountedBook, GuardedBook, GuardedCountedBook
from crateround.loads import Load
from crateround.notes import Note
from crateround.settlings import possible_balances, worths
from bookcase import BIG, note_of
from helpers import NOTHING, any_values, check_dict, halves, weight
from test_model import ERRORS, outcome, some_action
from model import Model, check_like, fields_of

WEIGHTS = {"whole": 2, "half": 1, "rack": 2}
GUARDED = (GuardedBook, GuardedCountedBook)
COUNTED = (CountedBook, GuardedCountedBook)


class Wanted(Exception):
    """What an action raises."""


def made(cls, limit=100):
    """An empty book of any of the classes."""
    return cls(halves()) if cls in (Book, CountedBook) else cls(halves(), WEIGHTS, limit)


def say(book, number, count, giver="ann", taker="bo", houses=None, day=5):
    """Let these houses, or both, say that so many halves were given."""
    for house in houses or (giver, taker):
        book.say(house, Note(number, day, giver, taker, Load(half=count)))


class GuardCase(unittest.TestCase):

    def check_over(self, book, one, other, call, *arguments):
        """The call raises OverLimit with these houses and changes nothing."""
        error = self.check_unchanged(book, OverLimit, call, *arguments)
        self.assertEqual((error.one, error.other), (one, other))

    def check_refused(self, book, error, field, value, call, *arguments):
        """The call raises this error, tells exactly this value, and changes nothing."""
        self.assertIs(getattr(self.check_unchanged(book, error, call, *arguments), field), value)

    def check_unchanged(self, book, error, call, *arguments):
        before = shown(book)
        counts = book.counts if isinstance(book, CountedBook) else None
        with self.assertRaises(error) as caught:
            call(*arguments)
        self.assertIs(type(caught.exception), error)
        self.assertEqual(book.counts if isinstance(book, CountedBook) else None, counts)
        self.assertEqual(shown(book), before)
        return caught.exception


def shown(book):
    """What a guarded book shows, with how much can be redone, without undoing anything."""
    standing = [(book.standing(house, number), book.status(number)) for house in book.houses for number in book.numbers()]
    return [book.history(), book.written(), book.numbers(), book.houses, book.closed, book.depth, standing,
            book.balances(), book.limit, book.weights, [can_redo(book, count) for count in range(8)]]


def can_redo(book, count):
    """Whether so much can be redone; explorations take it back."""
    try:
        return book.explore(lambda inner: inner.redo(count))
    except (OutOfRange, OverLimit) as error:
        return type(error)


class ClassesTest(unittest.TestCase):

    def test_classes(self):
        for cls in (GuardedBook, CountedBook):
            self.assertTrue(issubclass(cls, Book))
            self.assertTrue(issubclass(GuardedCountedBook, cls))
        self.assertFalse(issubclass(GuardedBook, CountedBook) or issubclass(CountedBook, GuardedBook))

    def test_at_first(self):
        for cls in GUARDED:
            book = cls(limit=7, weights=WEIGHTS, exchanges=halves())
            self.assertEqual((book.limit, book.weights, book.history(), book.depth), (7, WEIGHTS, (), 0))
            self.assertEqual(book.exchanges.pairs, halves().pairs)
            self.assertEqual(cls(Exchanges(), {}, 0).limit, 0)
        for cls in COUNTED:
            self.assertEqual(made(cls).counts, {"close": 0, "say": 0, "withdraw": 0})
        self.assertEqual(CountedBook(exchanges=halves()).exchanges.pairs, halves().pairs)

    def test_unfair(self):
        rules = Exchanges((Load(a=1), Load(b=1)), (Load(a=2), Load(c=1)), (NOTHING, Load(d=1)))
        for cls in GUARDED:
            for weights, index in [({}, 1), ({"a": 2}, 0), ({"a": 2, "b": 2}, 1), ({"c": 2}, 2)]:
                # Unfair comes before InvalidLimit.
                for limit in (5, -1, None):
                    with self.assertRaises(Unfair) as caught:
                        cls(rules, weights, limit)
                    self.assertEqual(caught.exception.index, index)

    def test_weights_are_copied(self):
        for cls in GUARDED:
            weights = {"whole": 2, "rack": 2, "half": 1}
            book = cls(halves(), weights, 9)
            weights["half"] = 9
            book.weights["half"] = 7
            self.assertEqual(book.weights, WEIGHTS)
            check_dict(self, book.weights)
            say(book, 1, 9)
            self.assertEqual(book.status(1), "agreed")


class LimitTest(GuardCase):

    def test_wrong_limits(self):
        wrong = [value for value in any_values() if type(value) is not int] + [
            -1, -3, -BIG, Load(a=1), halves(), note_of(), Book(halves()), 1.5]
        for cls in GUARDED:
            book = made(cls, 50)
            say(book, 1, 20)
            before = shown(book)
            for limit in wrong:
                for call in (lambda: cls(halves(), WEIGHTS, limit), lambda: book.set_limit(limit),
                             lambda: setattr(book, "limit", limit)):
                    with self.assertRaises(InvalidLimit) as caught:
                        call()
                    self.assertIs(caught.exception.value, limit)
                self.assertEqual(shown(book), before)

    def test_setting_the_limit(self):
        for cls in GUARDED:
            book = made(cls, 50)
            say(book, 1, 20, houses=("ann",))
            for set_limit in (book.set_limit, lambda limit: setattr(book, "limit", limit)):
                self.assertIsNone(set_limit(20))
                self.assertEqual(book.limit, 20)
                self.check_over(book, "ann", "bo", set_limit, 19)
                self.check_over(book, "ann", "bo", set_limit, 0)
                set_limit(BIG)
                self.assertEqual(book.limit, BIG)
            self.assertIsNone(book.set_limit(limit=30))
            self.assertEqual(book.limit, 30)

    def test_at_and_beyond_the_limit(self):
        for cls, giver, taker in itertools.product(GUARDED, ("ann", "bo"), ("ann", "bo")):
            if giver == taker:
                continue
            book = made(cls, 9)
            self.assertIsNone(say(book, 1, 9, giver, taker))
            note = Note(2, 5, giver, taker, Load(half=1))
            for house in (giver, taker):
                self.check_over(book, "ann", "bo", book.say, house, note)
            # The other way round there is room.
            say(book, 3, 18, taker, giver)
            self.check_over(book, "ann", "bo", book.say, "ann", Note(4, 5, taker, giver, Load(half=1)))
            self.assertEqual(book.balance(taker, giver, exact=True), Load(half=9))

    def test_a_limit_of_nothing(self):
        book = made(GuardedBook, 0)
        self.check_over(book, "ann", "bo", book.say, "ann", note_of())
        self.assertEqual(book.history(), ())
        # What is open cannot be made up for by what is agreed, and the other way round.
        book = made(GuardedBook, 3)
        say(book, 1, 3)
        say(book, 2, 3, "bo", "ann")
        book.set_limit(0)
        self.check_over(book, "ann", "bo", book.withdraw, "bo", 2)
        self.check_over(book, "ann", "bo", book.undo)

    def test_what_is_open_counts_at_its_worst(self):
        book = made(GuardedBook, 10)
        say(book, 1, 8)
        self.check_over(book, "ann", "bo", say, book, 2, 3, "ann", "bo", ("bo",))
        say(book, 2, 18, "bo", "ann", ("bo",))
        # From -10 to 8, so that there is room for two more only.
        self.check_over(book, "ann", "bo", say, book, 3, 3, "ann", "bo", ("ann",))
        say(book, 3, 2, houses=("ann",))
        self.check_over(book, "ann", "bo", say, book, 4, 1, "bo", "ann", ("ann",))
        # Agreed, the greater number makes room.
        book.say("ann", Note(2, 5, "bo", "ann", Load(half=18)))
        say(book, 5, 18, houses=("ann",))

    def test_what_is_unlike_counts_at_its_worst(self):
        book = made(GuardedBook, 10)
        book.say("ann", Note(1, 5, "ann", "bo", Load(half=10)))
        self.check_over(book, "ann", "bo", book.say, "bo", Note(1, 5, "bo", "ann", Load(half=11)))
        book.say("bo", Note(1, 5, "bo", "ann", Load(half=10)))
        for giver, taker in (("ann", "bo"), ("bo", "ann")):
            self.check_over(book, "ann", "bo", book.say, "ann", Note(2, 5, giver, taker, Load(half=1)))
        book.close(5, {1: "bo"})
        self.assertIsNone(say(book, 2, 20, day=6))

    def test_weights(self):
        book = GuardedBook(halves(), WEIGHTS, 10)
        book.say("ann", note_of(1, load=Load(half=1, whole=2, rack=1, cart=3)))
        self.check_over(book, "ann", "bo", book.say, "ann", note_of(2, load=Load(cart=1)))
        book = GuardedBook(Exchanges(), {"cart": 11}, 10)
        self.check_over(book, "ann", "bo", book.say, "ann", note_of(load=Load(cart=1)))
        book.say("ann", note_of(load=Load(tray=10)))

    def test_all_days_and_all_houses(self):
        book = made(GuardedBook, 10)
        say(book, 1, 6, day=-BIG)
        self.check_over(book, "ann", "bo", book.say, "ann", note_of(2, BIG, load=Load(half=5)))
        # Each two houses by themselves.
        for number, (one, other) in enumerate([("ann", "cy"), ("bo", "cy"), ("cy", "di"), ("a", "ann")], 3):
            say(book, number, 10, one, other)

    def test_the_first_pair(self):
        """Of all pairs that are over the limit, the first one, also where another one is changed."""
        book = made(GuardedBook, 50)
        for number, (one, other) in enumerate([("cy", "di"), ("zoe", "bo"), ("bo", "ann"), ("b", "cy")], 1):
            say(book, number, 10 + number, one, other)
        for limit, one, other in [(10, "ann", "bo"), (12, "ann", "bo"), (13, "b", "cy")]:
            self.check_over(book, one, other, book.set_limit, limit)
        book.undo(2)
        self.check_over(book, "ann", "bo", book.set_limit, 12)
        book.undo(2)
        self.check_over(book, "bo", "zoe", book.set_limit, 11)
        book.set_limit(12)
        self.assertEqual(book.limit, 12)


class RefusedTest(GuardCase):

    def test_withdrawing_and_closing(self):
        for cls in GUARDED:
            book = made(cls, 5)
            say(book, 1, 5)
            say(book, 2, 5, "bo", "ann")
            say(book, 3, 5)
            # With number 2 open the balance could be 10.
            self.check_over(book, "ann", "bo", book.withdraw, "bo", 2)
            self.check_over(book, "ann", "bo", book.withdraw, "ann", 2)
            book.set_limit(10)
            book.withdraw("bo", 2)
            book.attempt(lambda inner: inner.close(9, {2: None}))
            self.assertEqual(book.balance("ann", "bo", exact=True), Load(half=10))
            book.undo()
            book.close(9, {2: "ann"})
            self.assertIsNone(book.set_limit(5))

    def test_undo_and_redo(self):
        for cls in GUARDED:
            book = made(cls, 5)
            say(book, 1, 5)
            say(book, 2, 10, "bo", "ann")
            say(book, 3, 10)
            book.say("bo", Note(3, 5, "ann", "bo", Load(half=9)))
            # As it was before the last entry it is in the limit, but after a smaller one it would not be.
            self.assertEqual(worths(book, WEIGHTS, "ann", "bo")[:2], (4, 5))
            book.set_limit(5)
            self.assertIsNone(book.undo(2))
            self.assertEqual(book.limit, 5)
            self.assertIsNone(book.redo(2))
            book.withdraw("bo", 1)
            self.check_over(book, "ann", "bo", book.set_limit, 4)

    def test_a_whole_undo(self):
        """What lies between is not looked at."""
        for cls in GUARDED:
            book = made(cls, 20)
            say(book, 1, 15)
            say(book, 2, 15, "bo", "ann")
            say(book, 3, 5)
            book.set_limit(5)
            for count in (3, 4, 5):
                # After one of these the balance could be 15, after five it would be 15 by one note.
                self.check_over(book, "ann", "bo", book.undo, count)
            self.assertIsNone(book.undo(6))
            self.assertEqual(book.history(), ())
            for count in (1, 2, 3):
                self.check_over(book, "ann", "bo", book.redo, count)
            self.assertIsNone(book.redo(4))
            self.assertIsNone(book.redo(count=2))
            self.assertIsNone(book.undo(count=2))
            self.check_over(book, "ann", "bo", book.undo)
            self.check_refused(book, OutOfRange, "count", 5, book.undo, 5)
            self.check_refused(book, OutOfRange, "count", 3, book.redo, 3)

    def test_refused_entries_end_nothing_that_can_be_redone(self):
        for cls in GUARDED:
            book = made(cls, 10)
            say(book, 1, 5)
            say(book, 2, 5)
            book.undo(2)
            self.check_over(book, "ann", "bo", book.say, "ann", note_of(3, load=Load(half=6)))
            book.redo(2)
            self.assertEqual(book.numbers(), [1, 2])

    def test_own_errors_come_first(self):
        book = made(GuardedBook, 10)
        say(book, 1, 5)
        book.close(5, {})
        great = Load(half=99)
        self.check_refused(book, NotASide, "value", "cy", book.say, "cy", note_of(2, 9, load=great))
        self.check_refused(book, OtherPair, "number", 1, book.say, "cy", note_of(1, 9, "cy", "bo", load=great))
        self.check_refused(book, Closed, "number", 2, book.say, "ann", note_of(2, 5, load=great))
        self.check_refused(book, NoNote, "number", 9, book.withdraw, "ann", 9)
        self.check_refused(book, InvalidDay, "value", 5, book.close, 5, {})
        self.check_refused(book, InvalidSettling, "value", 8, book.close, 6, {8: None})
        self.check_refused(book, OutOfRange, "count", 9, book.undo, 9)
        self.check_over(book, "ann", "bo", book.say, "ann", note_of(2, 9, load=great))

    def test_numbers_of_other_classes(self):
        """A book that is looked at does not refuse."""
        book = made(GuardedBook, 10)
        say(book, 1, 10)
        say(book, 2, 10, "bo", "ann")
        book.set_limit(0)
        early = book.at(2)
        self.assertIs(type(early), Book)
        self.assertEqual(early.balance("ann", "bo", exact=True), Load(half=10))
        say(early, 3, 50)
        self.assertEqual(possible_balances(early, "ann", "bo"), [halves().plain(Load(half=60))])
        self.assertEqual((book.numbers(), book.limit), ([1, 2], 0))


class AttemptTest(GuardCase):

    def test_errors_within(self):
        book = made(GuardedBook, 10)
        say(book, 1, 5)
        for call in (book.attempt, book.explore):
            self.check_over(book, "ann", "bo", call, lambda inner: [say(inner, 2, 5), say(inner, 3, 1)])

    def test_refused_entries_within(self):
        book = made(GuardedBook, 10)

        def action(inner):
            say(inner, 1, 10)
            with self.assertRaises(OverLimit):
                say(inner, 2, 1)
            self.check_over(inner, "ann", "bo", inner.say, "ann", note_of(2))
            say(inner, 3, 10, "bo", "ann")
        book.attempt(action)
        self.assertEqual(book.numbers(), [1, 3])
        book.set_limit(0)
        self.check_over(book, "ann", "bo", book.undo)

    def test_the_limit_stays(self):
        for cls in GUARDED:
            book = made(cls, 10)
            say(book, 1, 4)

            def action(inner):
                inner.limit = 99
                say(inner, 2, 50)
                raise Wanted
            with self.assertRaises(Wanted):
                book.attempt(action)
            self.assertEqual((book.limit, book.numbers()), (99, [1]))
            book.explore(lambda inner: inner.set_limit(55))
            self.assertEqual(book.limit, 55)

    def test_what_is_taken_back_is_not_looked_at(self):
        for cls in GUARDED:
            book = made(cls, 10)
            say(book, 1, 10)
            say(book, 2, 6, "cy", "bo")

            def action(inner):
                say(inner, 3, 8, "bo", "ann")
                inner.set_limit(6)
            self.assertIsNone(book.explore(action))
            self.assertEqual((book.limit, book.numbers()), (6, [1, 2]))
            # From now on only what brings it below the limit again is allowed, whatever it is about.
            self.check_over(book, "ann", "bo", say, book, 4, 1, "cy", "di", ("cy",))
            self.check_over(book, "ann", "bo", book.undo, 0)
            self.check_over(book, "ann", "bo", book.redo, 0)
            self.check_over(book, "ann", "bo", book.undo, 1)
            self.check_over(book, "ann", "bo", book.undo, 2)
            self.check_over(book, "ann", "bo", book.set_limit, 6)
            self.assertIsNone(book.undo(4))
            self.assertEqual(book.history(), ())
            book.redo(0)


class CountedTest(GuardCase):

    def test_counts(self):
        for cls in COUNTED:
            book = made(cls)
            say(book, 1, 5)
            self.assertEqual(book.counts, {"close": 0, "say": 2, "withdraw": 0})
            book.withdraw("ann", 1)
            book.close(5, {1: None})
            self.assertEqual(book.counts, {"close": 1, "say": 2, "withdraw": 1})
            check_dict(self, book.counts)
            book.undo(3)
            self.assertEqual(book.counts, {"close": 1, "say": 2, "withdraw": 1})
            book.redo(2)
            self.assertEqual(book.counts, {"close": 1, "say": 3, "withdraw": 2})
            book.redo(0)
            book.undo(0)
            book.redo()
            self.assertEqual(book.counts, {"close": 2, "say": 3, "withdraw": 2})
            book.counts.clear()
            book.counts["say"] = 99
            self.assertEqual(book.counts, {"close": 2, "say": 3, "withdraw": 2})

    def test_refused_entries(self):
        for cls in COUNTED:
            book = made(cls)
            say(book, 1, 5)
            for call in (lambda: book.say("cy", note_of()), lambda: book.withdraw("ann", 7), lambda: book.redo(1),
                         lambda: book.close(None, {}), lambda: book.undo(9), lambda: book.close(9, None)):
                with self.assertRaises((NotASide, NoNote, OutOfRange, InvalidDay, InvalidSettling)):
                    call()
            self.assertEqual(book.counts, {"close": 0, "say": 2, "withdraw": 0})

    def test_what_the_limit_refuses(self):
        book = made(GuardedCountedBook, 5)
        say(book, 1, 5)
        say(book, 2, 5, "bo", "ann")
        book.set_limit(4)
        for call in (lambda: say(book, 3, 5), lambda: book.withdraw("ann", 2), book.undo):
            with self.assertRaises(OverLimit):
                call()
            self.assertEqual(book.counts, {"close": 0, "say": 4, "withdraw": 0})
        book.undo(4)
        with self.assertRaises(OverLimit):
            book.redo(2)
        self.assertEqual(book.counts, {"close": 0, "say": 4, "withdraw": 0})
        book.redo(4)
        self.assertEqual(book.counts, {"close": 0, "say": 8, "withdraw": 0})
        book.set_limit(0)
        with self.assertRaises(OverLimit):
            book.close(9, {}) or book.undo(2)
        self.assertEqual(book.counts, {"close": 1, "say": 8, "withdraw": 0})

    def test_what_is_taken_back_stays_counted(self):
        for cls in COUNTED:
            book = made(cls)

            def action(inner):
                say(inner, 1, 5)
                inner.undo(1)
                inner.redo(1)
                inner.withdraw("bo", 1)
                inner.close(9, {1: "ann"})
                raise Wanted
            for call, many in ((book.attempt, 1), (book.explore, 2)):
                with self.assertRaises(Wanted):
                    call(action)
                self.assertEqual(book.counts, {"close": many, "say": 3 * many, "withdraw": many})
                self.assertEqual(book.history(), ())
            book.explore(lambda inner: say(inner, 1, 5))
            self.assertEqual(book.counts, {"close": 2, "say": 8, "withdraw": 2})

    def test_books_of_their_own(self):
        for cls in COUNTED:
            one, other = made(cls), made(cls)
            say(one, 1, 5)
            self.assertEqual(other.counts["say"], 0)
            self.assertIs(type(one.at(1)), Book)
            self.assertEqual(one.counts["say"], 2)


class EqualityTest(unittest.TestCase):

    def test_classes(self):
        classes = (Book, GuardedBook, CountedBook, GuardedCountedBook)
        for cls, other in itertools.product(classes, classes):
            one, two = made(cls), made(other)
            for _ in range(2):
                self.assertIs(one == two, cls is other)
                self.assertIs(one != two, cls is not other)
                for book in (one, two):
                    say(book, 1, 5)
        for cls in classes:
            for value in [*any_values(), halves(), note_of(), Load(a=1)]:
                self.assertIs(made(cls) == value, False)

    def test_histories_and_rules(self):
        for cls in (GuardedBook, CountedBook, GuardedCountedBook):
            one, other = made(cls), made(cls)
            say(one, 1, 5)
            self.assertFalse(one == other)
            say(other, 1, 5)
            say(other, 2, 5)
            other.undo(2)
            self.assertTrue(one == other)
        self.assertFalse(GuardedBook(halves(), WEIGHTS, 1) == GuardedBook(Exchanges(), WEIGHTS, 1))
        self.assertFalse(CountedBook(halves()) == CountedBook(Exchanges()))

    def test_limits_and_weights(self):
        for cls in GUARDED:
            one = cls(Exchanges(), {"a": 1, "b": 2}, 5)
            self.assertTrue(one == cls(Exchanges(), {"b": 2, "a": 1}, 5))
            self.assertFalse(one == cls(Exchanges(), {"b": 2, "a": 1}, 6))
            self.assertFalse(one == cls(Exchanges(), {"b": 2, "a": 2}, 5))
            # As dicts, though they mean the same.
            self.assertFalse(one == cls(Exchanges(), {"b": 2}, 5))
            one.limit = 6
            self.assertTrue(one == cls(Exchanges(), {"b": 2, "a": 1}, 6))

    def test_counts_mean_nothing(self):
        for cls in COUNTED:
            one, other = made(cls), made(cls)
            say(one, 1, 5)
            one.undo(2)
            self.assertTrue(one == other)


class ReadTest(unittest.TestCase):
    DATA = b"say ann 1 5 ann bo half 3\nsay bo 1 5 ann bo half 3\nsay bo 2 5 ann bo half 4\nclose 5 2 -\n"

    def test_read(self):
        for cls in GUARDED:
            book = cls.read(self.DATA, halves(), WEIGHTS, 7)
            self.assertIs(type(book), cls)
            self.assertEqual((book.written(), book.limit, book.weights), (self.DATA, 7, WEIGHTS))
            self.assertTrue(book == cls.read(book.written(), halves(), WEIGHTS, 7))
        for cls in COUNTED:
            arguments = (halves(),) if cls is CountedBook else (halves(), WEIGHTS, 7)
            book = cls.read(self.DATA, *arguments)
            self.assertIs(type(book), cls)
            self.assertEqual((book.written(), book.counts), (self.DATA, {"close": 1, "say": 3, "withdraw": 0}))
        self.assertEqual(GuardedBook.read(b"", halves(), WEIGHTS, 0).history(), ())

    def check_refused(self, index, cause, cls, data, *arguments):
        with self.assertRaises(InvalidData) as caught:
            cls.read(data, *arguments)
        self.assertEqual((caught.exception.index, type(caught.exception.__cause__)), (index, cause))
        return caught.exception.__cause__

    def test_what_the_limit_refuses(self):
        for cls in GUARDED:
            for limit, index in ((0, 0), (2, 0), (3, 2), (6, 2)):
                cause = self.check_refused(index, OverLimit, cls, self.DATA, halves(), WEIGHTS, limit)
                self.assertEqual((cause.one, cause.other), ("ann", "bo"))
            more = self.DATA + b"withdraw ann 9\n"
            self.assertEqual(self.check_refused(4, NoNote, cls, more, halves(), WEIGHTS, 7).number, 9)
            wrong = self.DATA + b"say ann 3 6 ann ann half 1\n"
            self.check_refused(4, InvalidNote, cls, wrong, halves(), WEIGHTS, 7)
            self.check_refused(4, type(None), cls, self.DATA + b"x", halves(), WEIGHTS, 7)
            self.check_refused(1, type(None), cls, self.DATA[:26] + b"x\n", halves(), WEIGHTS, 7)
            self.check_refused(0, type(None), cls, None, halves(), WEIGHTS, 7)

    def test_errors_of_making_come_first(self):
        for cls in GUARDED:
            for data in (self.DATA, b"x", None):
                with self.assertRaises(InvalidLimit):
                    cls.read(data, halves(), WEIGHTS, -1)
                with self.assertRaises(Unfair):
                    cls.read(data, halves(), {}, -1)


class ModelTest(unittest.TestCase):
    """Guarded and counted books beside a model that reckons all worths anew after each entry."""

    def test_like_the_model(self):
        raised = {}
        for seed in range(40):
            chosen = random.Random(seed)
            rules, weights = [(halves(), WEIGHTS), (Exchanges(), {"cart": 3})][seed % 2]
            limit = chosen.randint(1, 6)
            book, model = GuardedCountedBook(rules, weights, limit), GuardedModel(rules, weights, limit)
            for _ in range(40):
                action = some_action(chosen, model, 0)
                one, other = outcome_of(action, book), outcome_of(action, model)
                self.assertEqual(one, other)
                raised[one[0]] = raised.get(one[0], 0) + 1
                if chosen.random() < 0.1:
                    limit = chosen.randint(0, 8)
                    one, other = [outcome_of(lambda each: each.set_limit(limit), each) for each in (book, model)]
                    self.assertEqual(one, other)
                self.assertEqual((book.limit, book.counts), (model.limit, model.counts))
                self.assertEqual(tuple(map(fields_of, book.history())), tuple(map(fields_of, model.done)))
            check_like(self, book, model)
        self.assertGreater(raised[OverLimit], 60)
        self.assertGreater(raised["returned"], 500)


def outcome_of(action, book):
    """What an action returns or raises, OverLimit too."""
    try:
        return outcome(lambda: action(book))[1]
    except OverLimit as error:
        return OverLimit, (error.one, error.other)


class GuardedModel(Model):

    def __init__(self, rules, weights, limit):
        Model.__init__(self, rules)
        self.weights, self.limit = weights, limit
        self.counts = {"close": 0, "say": 0, "withdraw": 0}

    def over(self, limit):
        """The first two houses whose worth can be above the limit, by all choices."""
        houses = ("ann", "bo", "cy", "di")
        for one, other in itertools.combinations(houses, 2):
            sums = {0}
            for number in self.numbers():
                notes = self.notes_of(number)
                possible = [self.worth(note, one, other) for note in notes.values()]
                if self.status(number) == "open":
                    possible.append(0)
                sums = {each + worth for each in sums for worth in possible}
            if max(abs(each) for each in sums) > limit:
                return one, other
        return None

    def worth(self, note, one, other):
        sign = {(one, other): 1, (other, one): -1}.get((note.giver, note.taker), 0)
        return sign * weight(note.load, {kind: self.weights.get(kind, 1) for kind in note.load.kinds})

    def guard(self, before):
        pair = self.over(self.limit)
        if pair is not None:
            self.done, self.undone = before
            raise OverLimit(*pair)

    def enter(self, entry):
        before = list(self.done), list(self.undone)
        Model.enter(self, entry)
        self.guard(before)
        self.counts[entry[0]] += 1

    def undo(self, count=1):
        before = list(self.done), list(self.undone)
        Model.undo(self, count)
        self.guard(before)

    def redo(self, count=1):
        before = list(self.done), list(self.undone)
        Model.redo(self, count)
        self.guard(before)
        for entry in self.done[len(self.done) - count:]:
            self.counts[entry[0]] += 1

    def set_limit(self, limit):
        pair = self.over(limit)
        if pair is not None:
            raise OverLimit(*pair)
        self.limit = limit


if __name__ == "__main__":
    unittest.main()
