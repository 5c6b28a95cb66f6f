"""Books and notes that the tests of books use."""

import unittest

from crateround.books import Book
from crateround.errors import OutOfRange
from crateround.loads import Load
from crateround.notes import Note
from helpers import halves

BIG = 10 ** 80 - 1


def note_of(number=1, day=5, giver="ann", taker="bo", load=None):
    return Note(number, day, giver, taker, load or Load(half=3))


def said(*pairs, rules=None):
    """A book in which these houses said these notes."""
    book = Book(rules or halves())
    for house, note in pairs:
        book.say(house, note)
    return book


def agreed(*notes, rules=None):
    return said(*[(house, note) for note in notes for house in (note.giver, note.taker)], rules=rules)


class BookCase(unittest.TestCase):

    def check_refused(self, book, error, field, value, call, *arguments):
        """The call raises this error, tells exactly this value, and changes nothing."""
        before = seen(book)
        with self.assertRaises(error) as caught:
            call(*arguments)
        self.assertIs(type(caught.exception), error)
        self.assertIs(getattr(caught.exception, field), value)
        self.assertEqual(seen(book), before)


def seen(book):
    """What a book shows, with what can be undone and redone, by which it must not be changed."""
    standing = [(book.standing(house, number), book.status(number)) for house in book.houses for number in book.numbers()]
    return [book.history(), book.written(), book.numbers(), book.houses, book.closed, book.depth, standing,
            book.balances(), most(book.undo, book.redo), most(book.redo, book.undo)]


def most(there, back):
    """How many entries can be undone, or redone."""
    count = 0
    while True:
        try:
            there()
        except OutOfRange:
            back(count)
            return count
        count += 1
