"""Books: what houses say about deliveries, and the balances that follow from it."""

from crateround.checks import ascending, is_integer
from crateround.errors import Closed, InvalidData, InvalidDay, InvalidNote, InvalidSettling, NoNote
from crateround.errors import NotASide, OtherPair, OutOfRange, OverLimit
from crateround.ledgers import SAY, Ledger, sides_of
from crateround.lines import enter, line_of, parts_of
from crateround.notes import copy_of, sum_between, sum_from


class Book:
    """A book of deliveries between houses that exchange by these rules."""

    def __init__(self, exchanges):
        self._exchanges = exchanges
        self._ledger = Ledger()
        self._depth = 0
        # So many of the first entries cannot be undone within what is running.
        self._floor = 0

    @classmethod
    def read(cls, data, *arguments):
        """The book that is made from the arguments and has the entries of these bytes."""
        book = cls(*arguments)
        if not isinstance(data, bytes):
            raise InvalidData(0)
        *lines, rest = data.split(b"\n")
        for index, line in enumerate(lines):
            parts = parts_of(line)
            if parts is None:
                raise InvalidData(index)
            try:
                enter(book, parts)
            except (Closed, InvalidDay, InvalidNote, InvalidSettling, NoNote, NotASide, OtherPair,
                    OverLimit) as error:
                raise InvalidData(index) from error
        if rest != b"":
            raise InvalidData(len(lines))
        return book

    @property
    def exchanges(self):
        """The rules."""
        return self._exchanges

    @property
    def houses(self):
        """All houses in standing notes, ascending."""
        notes = self._ledger.standing_notes_of_all()
        return tuple(ascending([house for note in notes for house in (note.giver, note.taker)]))

    @property
    def closed(self):
        """The last closed day, None at first."""
        return self._ledger.closed_day

    @property
    def depth(self):
        """How many attempts and explorations are running."""
        return self._depth

    def say(self, house, note):
        """The house says that this delivery took place."""
        self._perform(self._ledger.say_step(house, note))

    def withdraw(self, house, number):
        """The house has no standing note with this number any more."""
        self._perform(self._ledger.withdraw_step(house, number))

    def close(self, day, settling):
        """Close the days up to this one; settling tells what becomes of the numbers in doubt."""
        self._perform(self._ledger.close_step(day, settling))

    def status(self, number):
        """Whether any value is a number that is agreed, open, unlike or void."""
        return self._ledger.record_of(number).told_status()

    def standing(self, house, number):
        """The standing note of a house with this number, None if there is none; any values."""
        note = self._ledger.standing_note(house, number)
        return None if note is None else copy_of(note)

    def numbers(self):
        """The list of all numbers that are not void, ascending."""
        records = self._ledger.records
        return sorted([number for number in records if records[number].standing_notes], key=int)

    def balance(self, one, other, day=None, *, exact=False):
        """What one gave to other by agreed notes, minus what other gave to one."""
        return self._outcome(sum_between(self._ledger.agreed_notes(day), one, other), exact)

    def net(self, house, day=None, *, exact=False):
        """The sum of the balances of a house to all others."""
        return self._outcome(sum_from(self._ledger.agreed_notes(day), house), exact)

    def balances(self, day=None):
        """A dict from the pairs of houses to their plain balances that are not nothing."""
        notes = {}
        for note in self._ledger.agreed_notes(day):
            one, other = sides_of(note)
            notes.setdefault(one, {}).setdefault(other, []).append(note)
        found = {}
        for one in ascending(notes):
            for other in ascending(notes[one]):
                plain = self._exchanges.plain(sum_between(notes[one][other], one, other))
                if plain:
                    found[(one, other)] = plain
        return found

    def choices_of(self, number):
        """The choices of any value as a number: houses, ascending, and None last; () if it is not in doubt."""
        return self._ledger.record_of(number).choices()

    def doubts(self):
        """A dict from the numbers in doubt, ascending, to dicts from their choices to the notes that count then."""
        return self._ledger.doubts()

    def history(self):
        """The tuple of all entries that were performed and not undone."""
        return tuple([copied_entry(entry) for entry in self._ledger.entries()])

    def undo(self, count=1):
        """Take back so many entries."""
        check_count(count, len(self._ledger.done) - self._floor)
        self._take_back(count)

    def redo(self, count=1):
        """Perform again so many of the entries that were taken back."""
        check_count(count, len(self._ledger.undone))
        self._perform_again(count)

    def at(self, count):
        """The book as it was after so many entries."""
        many = len(self._ledger.done)
        check_count(count, many)
        ledger = self._ledger.duplicate()
        ledger.take_back(many - count)
        ledger.undone = []
        book = Book(self._exchanges)
        book._ledger = ledger
        return book

    def attempt(self, action):
        """What action(book) returns; if it raises an error, all that it did is taken back."""
        return self._tried(action, True)

    def explore(self, action):
        """What action(book) returns; all that it did is taken back."""
        return self._tried(action, False)

    def written(self):
        """The history as bytes, a line for each entry."""
        return "".join([line_of(entry) + "\n" for entry in self._ledger.entries()]).encode()

    def __eq__(self, other):
        return isinstance(other, Book) and self._is_like(other)

    def _is_like(self, other):
        """Whether another book is of the same class and has the same rules and entries."""
        return (self.__class__.__name__ == other.__class__.__name__
                and self._exchanges.pairs == other._exchanges.pairs
                and self._ledger.entries() == other._ledger.entries())

    def _perform(self, step):
        """Perform a new step."""
        self._ledger.perform(step)

    def _take_back(self, count):
        """Take back so many steps, which are there."""
        self._ledger.take_back(count)

    def _perform_again(self, count):
        """Perform again so many steps, which are there."""
        self._ledger.perform_again(count)

    def _outcome(self, load, exact):
        """A balance as it is returned."""
        return load if exact else self._exchanges.plain(load)

    def _tried(self, action, keeps):
        """What action(book) returns; what it did is kept only if it keeps it and raises no error."""
        before = self._ledger
        depth = self._depth
        floor = self._floor
        kept = None
        # The action works on a copy: a finally may only assign, so that nothing could be undone there.
        self._ledger = before.duplicate()
        self._depth = depth + 1
        self._floor = len(before.done)
        try:
            result = action(self)
            if keeps:
                kept = self._ledger
            return result
        finally:
            self._depth = depth
            self._floor = floor
            if kept is None:
                self._ledger = before


def check_count(count, most):
    """Raise OutOfRange if any value is not an integer from 0 to the most."""
    if not is_integer(count) or not 0 <= count <= most:
        raise OutOfRange(count)


def copied_entry(entry):
    """The entry with a note of its own."""
    word, *told = entry
    if word != SAY:
        return entry
    house, note = told
    return word, house, copy_of(note)
