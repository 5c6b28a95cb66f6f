"""Points 41 and 42: what houses say, and balances."""

import unittest

from crateround.books import Book
from crateround.counters import Counter
from crateround.errors import Closed, NoNote, NotASide, OtherPair
from crateround.exchanges import Exchanges
from crateround.loads import Load
from crateround.notes import Note
from bookcase import BIG, BookCase, agreed, note_of, said
from helpers import NOTHING, any_values, halves


class SayingTest(BookCase):

    def test_at_first(self):
        book = Book(exchanges=halves())
        self.assertEqual((book.numbers(), book.houses, book.closed, book.history(), book.depth, book.written()),
                         ([], (), None, (), 0, b""))
        self.assertEqual(book.exchanges.pairs, halves().pairs)
        self.assertEqual((book.status(1), book.standing("ann", 1), book.balances()), ("void", None, {}))

    def test_statuses(self):
        one, other = note_of(), note_of(load=Load(half=4))
        book = Book(halves())
        self.assertEqual(book.status(1), "void")
        self.assertIsNone(book.say(house="bo", note=one))
        self.assertEqual(book.status(number=1), "open")
        book.say("ann", other)
        self.assertEqual(book.status(1), "unlike")
        book.say("bo", note_of(load=Load(half=4)))
        self.assertEqual(book.status(1), "agreed")
        self.assertIsNone(book.withdraw(house="ann", number=1))
        self.assertEqual(book.status(1), "open")
        book.withdraw("bo", 1)
        self.assertEqual(book.status(1), "void")

    def test_notes_are_unlike_by_any_field(self):
        for other in (note_of(day=6), note_of(giver="bo", taker="ann"), note_of(load=Load(half=3, rack=1)),
                      note_of(load=Load(half=1, whole=1))):
            self.assertEqual(said(("ann", note_of()), ("bo", other)).status(1), "unlike")
        self.assertEqual(said(("ann", note_of()), ("bo", note_of(load=Load(half=3, rack=0)))).status(1), "agreed")

    def test_notes_are_replaced(self):
        one, other = note_of(), note_of(day=2, load=Load(rack=1))
        book = said(("ann", one), ("bo", one), ("ann", other))
        self.assertEqual((book.standing("ann", 1), book.standing("bo", 1), book.status(1)), (other, one, "unlike"))
        book.say("ann", one)
        self.assertEqual((book.standing(house="ann", number=1), book.status(1)), (one, "agreed"))

    def test_giver_and_taker_exchanged(self):
        one, back = note_of(), note_of(giver="bo", taker="ann")
        book = said(("ann", one), ("bo", back))
        self.assertEqual((book.status(1), book.houses), ("unlike", ("ann", "bo")))
        book.say("ann", back)
        self.assertEqual(book.status(1), "agreed")
        self.assertEqual(book.balance("bo", "ann", exact=True), Load(half=3))
        self.assertEqual(book.balance("ann", "bo", exact=True), Load(half=-3))

    def test_what_is_kept_is_copied(self):
        note = note_of()
        book = said(("ann", note), ("bo", note))
        note.day, note.load, note.number = 9, Load(half=1), 7
        kept = note_of()
        self.assertEqual((book.standing("ann", 1), book.status(1), book.status(7)), (kept, "agreed", "void"))
        for told in (book.standing("ann", 1), book.history()[0][2]):
            told.day = 99
        self.assertEqual((book.standing("ann", 1), book.history()), (kept, (("say", "ann", kept), ("say", "bo", kept))))

    def test_numbers_and_houses(self):
        book = said(("cy", note_of(30, giver="cy", taker="bo")), ("ann", note_of(4, giver="ann", taker="zoe")),
                    ("bo", note_of(200, giver="bo", taker="ann")))
        self.assertEqual(book.numbers(), [4, 30, 200])
        self.assertEqual(book.houses, ("ann", "bo", "cy", "zoe"))
        book.withdraw("ann", 4)
        self.assertEqual((book.numbers(), book.houses), ([30, 200], ("ann", "bo", "cy")))
        book.numbers().clear()
        self.assertEqual(book.numbers(), [30, 200])
        self.assertEqual(said(("ann", note_of(BIG)), ("ann", note_of(9))).numbers(), [9, BIG])

    def test_not_a_side(self):
        note = note_of()
        book = said(("ann", note))
        for house in [*any_values(), "cy", "annb", "ANN", b"ann", ["ann"], ("ann",), {"ann": 1}, Load(ann=1), halves(),
                      note, book, Counter(halves(), NOTHING)]:
            self.check_refused(book, NotASide, "value", house, book.say, house, note)

    def test_other_pair(self):
        book = said(("ann", note_of(7)))
        number = 7
        for other in (note_of(7, giver="cy"), note_of(7, taker="cy"), note_of(7, giver="bo", taker="cy"),
                      note_of(7, giver="cy", taker="di")):
            for house in (other.giver, other.taker):
                self.check_refused(book, OtherPair, "number", number, book.say, house, other)
        book.say("bo", note_of(7, giver="bo", taker="ann"))
        # What was ever said counts, also when it is withdrawn, but not when it is undone.
        book.withdraw("ann", 7)
        book.withdraw("bo", 7)
        self.assertEqual(book.status(7), "void")
        self.check_refused(book, OtherPair, "number", number, book.say, "cy", note_of(7, giver="cy"))
        book.undo(4)
        self.assertIsNone(book.say("cy", note_of(7, giver="cy")))
        self.check_refused(book, OtherPair, "number", number, book.say, "ann", note_of(7))

    def test_other_pair_of_a_void_number(self):
        book = said(("ann", note_of()))
        book.close(9, {1: None})
        self.assertEqual(book.status(1), "void")
        self.check_refused(book, OtherPair, "number", 1, book.say, "cy", note_of(day=12, giver="cy"))
        self.assertIsNone(book.say("bo", note_of(day=12, giver="bo", taker="ann")))

    def test_what_was_taken_back_counts_for_no_pair(self):
        book = Book(halves())
        book.explore(lambda inner: inner.say("ann", note_of()))
        self.assertIsNone(book.say("cy", note_of(giver="cy")))

    def test_closed_days(self):
        book = agreed(note_of(1, 5), note_of(2, 8))
        book.close(6, {})
        for day in (-3, 5, 6):
            self.check_refused(book, Closed, "number", 3, book.say, "ann", note_of(3, day))
        # The new note is late enough, the standing one is not; and the other way round.
        self.check_refused(book, Closed, "number", 1, book.say, "ann", note_of(1, 7))
        self.check_refused(book, Closed, "number", 2, book.say, "bo", note_of(2, 6))
        self.check_refused(book, Closed, "number", 1, book.withdraw, "bo", 1)
        self.assertIsNone(book.say("bo", note_of(2, 7)))
        self.assertIsNone(book.say("ann", note_of(3, 7)))
        self.assertIsNone(book.withdraw("ann", 2))
        # Only the house's own note counts.
        book = said(("bo", note_of(1, 20)))
        book.close(6, {})
        self.assertIsNone(book.say("ann", note_of(1, 7)))

    def test_order_of_errors(self):
        book = agreed(note_of(1, 5))
        book.close(5, {})
        self.check_refused(book, NotASide, "value", "di", book.say, "di", note_of(1, 5, "cy", "bo"))
        self.check_refused(book, OtherPair, "number", 1, book.say, "cy", note_of(1, 5, "cy", "bo"))
        self.check_refused(book, Closed, "number", 1, book.say, "ann", note_of(1, 5))
        self.check_refused(book, NoNote, "number", 2, book.withdraw, "ann", 2)

    def test_withdrawing_what_is_not_there(self):
        book = said(("ann", note_of()), ("ann", note_of(2)), ("bo", note_of(2)))
        book.withdraw("bo", 2)
        for house, number in [("bo", 1), ("bo", 2), ("cy", 1), ("ann", 3), ("ann", 0), ("ann", -1)]:
            self.check_refused(book, NoNote, "number", number, book.withdraw, house, number)
        others = [*any_values(), Load(ann=1), halves(), note_of(), book]
        for value in others:
            if value != 1 or value is True:
                self.check_refused(book, NoNote, "number", value, book.withdraw, "ann", value)
            self.check_refused(book, NoNote, "number", 1, book.withdraw, value, 1)
            self.check_refused(book, NoNote, "number", value, book.withdraw, value, value)

    def test_any_values(self):
        book = agreed(note_of())
        for value in [*any_values(), Load(ann=1), halves(), note_of(), book, "1", (1,), [1]]:
            if value != 1 or value is True:
                self.assertEqual(book.status(value), "void")
                self.assertIsNone(book.standing("ann", value))
            self.assertIsNone(book.standing(value, 1))
            self.assertIsNone(book.standing(value, value))
        self.assertEqual(book.status(1), "agreed")

    def test_great_numbers(self):
        for number, day in ((BIG, BIG), (10 ** 80, -10 ** 80)):
            note = note_of(number, day, load=Load(half=BIG))
            book = agreed(note)
            self.assertEqual((book.status(number), book.standing("bo", number)), ("agreed", note))
            self.assertEqual(book.balance("ann", "bo", day, exact=True), Load(half=BIG))
            self.assertEqual(book.balance("ann", "bo", day - 1, exact=True), NOTHING)


class BalanceTest(unittest.TestCase):

    def book(self):
        book = agreed(
            Note(1, 5, "ann", "bo", Load(half=3)), Note(2, 6, "bo", "ann", Load(rack=1)),
            Note(3, 6, "ann", "cy", Load(half=2, cart=4)), Note(4, 7, "cy", "bo", Load(whole=2)),
            Note(5, 8, "bo", "cy", Load(rack=2)))
        book.say("ann", Note(6, 1, "ann", "bo", Load(half=100)))
        book.say("ann", Note(7, 1, "ann", "bo", Load(half=100)))
        book.say("bo", Note(7, 1, "ann", "bo", Load(half=99)))
        return book

    def test_balance(self):
        book = self.book()
        self.assertEqual(book.balance("ann", "bo", exact=True), Load(half=3, rack=-1))
        self.assertEqual(book.balance("bo", "ann", exact=True), Load(half=-3, rack=1))
        self.assertEqual(book.balance("ann", "bo"), halves().plain(Load(half=3, rack=-1)))
        self.assertEqual(book.balance("bo", "cy", exact=True), Load(rack=2, whole=-2))
        self.assertEqual(book.balance("bo", "cy"), NOTHING)
        self.assertEqual(book.balance("ann", "cy").counts, {"cart": 4, "whole": 1})

    def test_days(self):
        book = self.book()
        for day, half, rack in [(None, 3, -1), (6, 3, -1), (5, 3, 0), (4, 0, 0), (-10 ** 80, 0, 0), (10 ** 79, 3, -1)]:
            load = Load(half=half, rack=rack)
            self.assertEqual(book.balance("ann", "bo", day, exact=True), load)
            self.assertEqual(book.balance("ann", "bo", day), halves().plain(load))
        self.assertEqual(book.balances(5), {("ann", "bo"): Load(half=1, whole=1)})
        self.assertEqual(book.balances(7)["bo", "cy"], halves().plain(Load(whole=-2)))
        self.assertEqual(book.balances(4), {})

    def test_names(self):
        book = self.book()
        self.assertEqual(book.balance(other="bo", one="ann", exact=True, day=5), Load(half=3))
        self.assertEqual(book.balance("ann", "bo", exact=False), book.balance("ann", "bo"))
        self.assertEqual(book.net(exact=True, house="cy", day=6), Load(half=-2, cart=-4))
        self.assertEqual(book.balances(day=4), {})
        for call in (lambda: book.balance("ann", "bo", 5, True), lambda: book.net("ann", 5, True)):
            with self.assertRaises(TypeError):
                call()

    def test_with_itself_and_with_strangers(self):
        book = self.book()
        for exact in (True, False):
            self.assertEqual(book.balance("ann", "ann", exact=exact), NOTHING)
            self.assertEqual(book.balance("zoe", "ann", exact=exact), NOTHING)
            self.assertEqual(book.net("zoe", exact=exact), NOTHING)

    def test_net(self):
        book = self.book()
        self.assertEqual(book.net("ann", exact=True), Load(half=5, cart=4, rack=-1))
        self.assertEqual(book.net("bo", exact=True), Load(half=-3, rack=3, whole=-2))
        self.assertEqual(book.net("cy", exact=True), Load(half=-2, cart=-4, whole=2, rack=-2))
        self.assertEqual(book.net("ann", 5, exact=True), Load(half=3))
        for house in ("ann", "bo", "cy"):
            self.assertEqual(book.net(house), halves().plain(book.net(house, exact=True)))
        # Twice a plain half, which is a whole.
        book = agreed(note_of(1, load=Load(half=1)), note_of(2, taker="cy", load=Load(half=1)))
        self.assertEqual(book.net("ann"), Load(whole=1))

    def test_balances(self):
        book = self.book()
        found = book.balances()
        self.assertEqual(list(found), [("ann", "bo"), ("ann", "cy")])
        self.assertEqual(found, {(one, other): book.balance(one, other) for one, other in found})
        found.clear()
        self.assertEqual(len(book.balances()), 2)

    def test_balances_are_ascending(self):
        notes = [note_of(number, giver=giver, taker=taker) for number, (giver, taker) in enumerate(
            [("zoe", "b"), ("bo", "ann"), ("b", "ann"), ("a", "zoe"), ("ann", "zoe"), ("ab", "a"), ("b", "bo")], 1)]
        found = list(agreed(*notes).balances())
        self.assertEqual(found, [("a", "ab"), ("a", "zoe"), ("ann", "b"), ("ann", "bo"), ("ann", "zoe"), ("b", "bo"),
                                 ("b", "zoe")])

    def test_only_agreed_notes_count(self):
        book = agreed(note_of())
        self.assertEqual(book.balance("ann", "bo", exact=True), Load(half=3))
        book.say("bo", note_of(load=Load(half=2)))
        self.assertEqual(book.balance("ann", "bo", exact=True), NOTHING)
        book.say("ann", note_of(load=Load(half=2)))
        self.assertEqual(book.balance("ann", "bo", exact=True), Load(half=2))
        book.withdraw("ann", 1)
        self.assertEqual((book.balance("ann", "bo", exact=True), book.balances()), (NOTHING, {}))

    def test_rules_of_the_book(self):
        note = note_of(load=Load(half=2, cart=1))
        self.assertEqual(agreed(note, rules=Exchanges()).balance("ann", "bo"), Load(half=2, cart=1))
        gone = Exchanges((Load(half=2), NOTHING))
        self.assertEqual(agreed(note, rules=gone).balance("ann", "bo"), Load(cart=1))
        self.assertEqual(agreed(note_of(load=Load(half=4)), rules=gone).balances(), {})


if __name__ == "__main__":
    unittest.main()
