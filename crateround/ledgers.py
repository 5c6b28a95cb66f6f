"""Ledgers: the entries of a book, and the standing notes and the closed day that follow from them."""

from crateround.checks import ascending, is_integer
from crateround.errors import Closed, InvalidDay, InvalidSettling, NoNote, NotASide, OtherPair
from crateround.notes import copy_of, up_to

SAY = "say"
WITHDRAW = "withdraw"
CLOSE = "close"

AGREED = "agreed"
OPEN = "open"
UNLIKE = "unlike"
VOID = "void"


class Record:
    """The two houses for which a number was said, and the standing notes of these houses.

    A record is not changed once it is made, so that steps and copies of a ledger can share it.
    """

    def __init__(self, sides, standing_notes):
        self.sides = sides
        self.standing_notes = standing_notes

    def told_status(self):
        """The word for how far the houses say the same."""
        notes = list(self.standing_notes.values())
        if not notes:
            return VOID
        if len(notes) == 1:
            return OPEN
        return AGREED if notes[0] == notes[1] else UNLIKE

    def agreed_notes(self):
        """A list of the note that both houses say, an empty one if there is none."""
        return [self.standing_notes[self.sides[0]]] if self.told_status() == AGREED else []

    def choices(self):
        """What can become of a number in doubt: houses, ascending, and None last."""
        word = self.told_status()
        if word == OPEN:
            return *self.standing_notes, None
        return self.sides if word == UNLIKE else ()

    def chosen_notes(self):
        """A dict from the choices to lists of the note that counts then, empty ones if none does."""
        return {house: [] if house is None else [self.standing_notes[house]] for house in self.choices()}

    def possible_notes(self):
        """The lists of notes of which one will count, whatever is chosen."""
        return list(self.chosen_notes().values()) or [self.agreed_notes()]

    def is_due(self, day):
        """Whether the number is in doubt and one of its standing notes has a day up to this one."""
        return bool(self.choices()) and any([note.day <= day for note in self.standing_notes.values()])

    def with_note(self, house, note):
        """The record after the house said this note."""
        found = dict(self.standing_notes)
        found[house] = note
        return Record(sides_of(note), found)

    def without_note(self, house):
        """The record after the house withdrew its note."""
        return Record(self.sides, {side: note for side, note in self.standing_notes.items() if side != house})

    def settled(self, house):
        """The record after the note of this house, or none (None), was chosen for both houses."""
        if house is None:
            return Record(self.sides, {})
        return Record(self.sides, {side: self.standing_notes[house] for side in self.sides})


class Step:
    """An entry, and what it changes: (number, record before, record after), and the closed days."""

    def __init__(self, entry, changes, day_before, day_after):
        self.entry = entry
        self.changes = changes
        self.day_before = day_before
        self.day_after = day_after


class Ledger:
    """The steps that were performed and those that can be redone (the next one last), and their outcome."""

    def __init__(self):
        self.done = []
        self.undone = []
        self.records = {}
        self.closed_day = None

    def duplicate(self):
        """A ledger that holds the same and is changed apart from this one."""
        found = Ledger()
        self.copy_to(found)
        return found

    def copy_to(self, other):
        """Make a new ledger hold the same as this one."""
        other.done = list(self.done)
        other.undone = list(self.undone)
        other.records = dict(self.records)
        other.closed_day = self.closed_day

    def entries(self):
        """The list of the entries that were performed and not undone."""
        return [step.entry for step in self.done]

    def record_of(self, number):
        """The record of any value as a number; one without houses if the number was never said."""
        if is_integer(number) and number in self.records:
            return self.records[number]
        return Record((), {})

    def standing_note(self, house, number):
        """The standing note of any value as a house, with any value as a number, or None."""
        if not isinstance(house, str):
            return None
        return self.record_of(number).standing_notes.get(house)

    def standing_notes_of_all(self):
        """The list of all standing notes."""
        return [note for record in self.records.values() for note in record.standing_notes.values()]

    def agreed_notes(self, day):
        """The list of the notes that both houses say, up to this day if it is not None."""
        return up_to([note for record in self.records.values() for note in record.agreed_notes()], day)

    def doubts(self):
        """A dict from the numbers in doubt, ascending, to dicts from their choices to the notes that count then."""
        found = {number: record.chosen_notes() for number, record in self.records.items() if record.choices()}
        return {number: found[number] for number in sorted(found, key=int)}

    def is_closed(self, day):
        """Whether this day is closed."""
        return self.closed_day is not None and day <= self.closed_day

    def say_step(self, house, note):
        """The step by which a house says a note."""
        number = note.number
        if house not in (note.giver, note.taker):
            raise NotASide(house)
        record = self.record_of(number)
        if record.sides not in ((), sides_of(note)):
            raise OtherPair(number)
        before = self.standing_note(house, number)
        if self.is_closed(note.day) or (before is not None and self.is_closed(before.day)):
            raise Closed(number)
        kept = copy_of(note)
        return self._step((SAY, house, kept), number, record.with_note(house, kept))

    def withdraw_step(self, house, number):
        """The step by which a house withdraws its standing note."""
        before = self.standing_note(house, number)
        if before is None:
            raise NoNote(number)
        if self.is_closed(before.day):
            raise Closed(number)
        return self._step((WITHDRAW, house, number), number, self.record_of(number).without_note(house))

    def close_step(self, day, settling):
        """The step by which the days up to this one are closed."""
        if not is_integer(day) or self.is_closed(day):
            raise InvalidDay(day)
        due = {number: record for number, record in self.records.items() if record.is_due(day)}
        check_settling(settling, {number: record.choices() for number, record in due.items()})
        entry = (CLOSE, day, tuple([(number, settling[number]) for number in sorted(settling, key=int)]))
        changes = [(number, record, record.settled(settling[number])) for number, record in due.items()]
        return Step(entry, changes, self.closed_day, day)

    def perform(self, step):
        """Perform a new step, which ends what can be redone."""
        self._go_forward(step)
        self.undone = []

    def take_back(self, count):
        """Take back so many of the last steps."""
        for _ in range(count):
            step = self.done.pop()
            self.undone.append(step)
            for number, before, after in step.changes:
                self.change(number, after, before)
            self.closed_day = step.day_before

    def perform_again(self, count):
        """Perform again so many of the steps that were taken back."""
        for _ in range(count):
            self._go_forward(self.undone.pop())

    def _go_forward(self, step):
        """Perform a step."""
        self.done.append(step)
        for number, before, after in step.changes:
            self.change(number, before, after)
        self.closed_day = step.day_after

    def change(self, number, _, after):
        """Put a record after another one."""
        self.records[number] = after

    def _step(self, entry, number, after):
        """The step of an entry that changes the record of one number."""
        return Step(entry, [(number, self.record_of(number), after)], self.closed_day, self.closed_day)


def sides_of(note):
    """The two houses of a note, ascending."""
    return tuple(ascending([note.giver, note.taker]))


def check_settling(settling, choices):
    """Raise InvalidSettling if any value is not a settling for these choices, a dict from numbers."""
    if not isinstance(settling, dict) or not all([is_integer(number) for number in settling]):
        raise InvalidSettling(settling)
    for number in sorted(choices, key=int):
        if number not in settling or settling[number] not in choices[number]:
            raise InvalidSettling(number)
    for number in sorted(settling, key=int):
        if number not in choices:
            raise InvalidSettling(number)
