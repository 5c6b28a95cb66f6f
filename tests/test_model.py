"""Points 41 to 44: books beside the model, over many entries drawn by chance, right ones and wrong ones."""

import random
import unittest

from crateround.books import Book
from crateround.errors import Closed, InvalidDay, InvalidSettling, NoNote, NotASide, OtherPair, OutOfRange
from crateround.exchanges import Exchanges
from crateround.loads import Load
from crateround.notes import Note
from helpers import halves
from model import Model, check_like

ERRORS = (Closed, InvalidDay, InvalidSettling, NoNote, NotASide, OtherPair, OutOfRange)
RULES = [halves(), Exchanges(), Exchanges((Load(half=3), Load()), (Load(whole=2), Load(rack=1)))]


class Wanted(Exception):
    """What an action raises."""


def outcome(call):
    """What a call returns or raises."""
    try:
        return "returned", call()
    except ERRORS as error:
        return type(error), vars(error)
    except Wanted as error:
        return "wanted", error.args


def some_note(chosen):
    number = chosen.randint(1, 5)
    # Mostly the same two houses for a number, so that they agree at times.
    giver, taker = [("ann", "bo"), ("bo", "cy"), ("ann", "cy"), ("cy", "ann"), ("bo", "ann")][number - 1]
    if chosen.random() < 0.15:
        giver, taker = taker, giver
    if chosen.random() < 0.05:
        taker = "di"
    load = Load.of({chosen.choice(["half", "whole", "rack", "cart"]): chosen.randint(1, 2)})
    return Note(number, chosen.randint(-1, 4), giver, taker, load)


def some_settling(chosen, model, day):
    """A settling that is mostly right."""
    found = {}
    for number in model.due(day):
        notes = model.notes_of(number)
        choices = [*notes] + [None] * (len(notes) == 1)
        found[number] = chosen.choice(choices)
        if chosen.random() < 0.05:
            found[number] = chosen.choice([None, "ann", "zoe", 3, [], True])
        if chosen.random() < 0.05:
            del found[number]
    if chosen.random() < 0.05:
        found[chosen.randint(0, 9)] = chosen.choice([None, "ann"])
    return found


def some_action(chosen, model, depth):
    """A function that does the same to a book and to a model, and returns what came of it."""
    kind = chosen.choices(["say", "again", "withdraw", "close", "undo", "redo", "attempt", "explore"],
                          [8, 6, 2, 1.5, 3, 2, 1, 1])[0]
    if kind == "again" and model.done:
        word, *told = chosen.choice(model.done[-6:])
        if word == "say":
            note = told[1]
            return lambda book: outcome(lambda: book.say(chosen_side(note, told[0]), note))
    if kind in ("say", "again"):
        note = some_note(chosen)
        house = chosen.choice([note.giver, note.taker] * 8 + ["zoe", None])
        return lambda book: outcome(lambda: book.say(house, note))
    if kind == "withdraw":
        house, number = chosen.choice(["ann", "bo", "cy"]), chosen.randint(1, 5)
        return lambda book: outcome(lambda: book.withdraw(house, number))
    if kind == "close":
        day = chosen.randint(-2, 3)
        settling = some_settling(chosen, model, day)
        return lambda book: outcome(lambda: book.close(day, settling))
    if kind in ("undo", "redo"):
        count = chosen.choice([0, 1, 1, 1, 2, 3, 9])
        return lambda book: outcome(lambda: getattr(book, kind)(count))
    seed, many, raises = chosen.random(), chosen.randint(0, 5), chosen.random() < 0.3
    return lambda book: outcome(lambda: getattr(book, kind)(nested(seed, many, raises, depth + 1)))


def chosen_side(note, said):
    """The other side of the note, so that both say it."""
    return note.taker if said == note.giver else note.giver


def nested(seed, many, raises, depth):
    """An action that does so many things drawn from the seed, and may raise an error at the end."""
    def action(book):
        chosen = random.Random(seed)
        found = []
        for _ in range(many):
            model = book if isinstance(book, Model) else model_of(book)
            found.append(some_action(chosen, model, depth)(book) if depth < 4 else None)
        found.append(len(book.floors) if isinstance(book, Model) else book.depth)
        if raises:
            raise Wanted(found)
        return found
    return action


def model_of(book):
    """A model with the entries of a book, from which the next action is drawn."""
    found = Model(book.exchanges)
    found.done = list(book.history())
    return found


class ModelTest(unittest.TestCase):

    def test_like_the_model(self):
        returned, raised = 0, {}
        for seed in range(60):
            chosen = random.Random(seed)
            rules = RULES[seed % len(RULES)]
            book, model = Book(rules), Model(rules)
            for _ in range(40):
                action = some_action(chosen, model, 0)
                one, other = action(book), action(model)
                self.assertEqual(one, other)
                returned += one[0] == "returned"
                raised[one[0]] = raised.get(one[0], 0) + 1
                self.check_history(book, model)
            check_like(self, book, model, (None, -1, 0, 2, 9))
        # Everything came up often enough.
        self.assertGreater(returned, 1000)
        self.assertEqual({*raised} - {"returned", "wanted"}, {*ERRORS})

    def check_history(self, book, model):
        """The entries, and now and then all the rest."""
        self.assertEqual(len(book.history()), len(model.done))
        if len(model.done) % 5 == 0:
            check_like(self, book, model)

    def test_earlier_books(self):
        """at(count) is the book of the first entries, made in whatever way."""
        for seed in range(20):
            chosen = random.Random(seed)
            rules = RULES[seed % len(RULES)]
            book, model = Book(rules), Model(rules)
            for _ in range(30):
                action = some_action(chosen, model, 0)
                self.assertEqual(action(book), action(model))
            for count in range(len(model.done) + 1):
                early, like = book.at(count), Model(rules)
                like.done = model.done[:count]
                check_like(self, early, like)
                self.assertEqual(outcome(early.redo), outcome(like.redo))
                early.undo(count)
                self.assertEqual(early.history(), ())
                early.redo(count)
                check_like(self, early, like)


if __name__ == "__main__":
    unittest.main()
