"""Notes: what a house says about a delivery."""

from crateround.checks import is_integer, is_word
from crateround.errors import InvalidNote
from crateround.forms import is_stock
from crateround.loads import Load


class Note:
    """A delivery of a load from one house to another one on a day."""

    def __init__(self, number, day, giver, taker, load):
        if not is_integer(number) or number < 1:
            raise InvalidNote("number")
        if not is_integer(day):
            raise InvalidNote("day")
        if not is_word(giver):
            raise InvalidNote("giver")
        if not is_word(taker) or taker == giver:
            raise InvalidNote("taker")
        if not is_stock(load) or not load:
            raise InvalidNote("load")
        self.number = number
        self.day = day
        self.giver = giver
        self.taker = taker
        self.load = load

    def __eq__(self, other):
        return (isinstance(other, Note) and self.number == other.number and self.day == other.day
                and self.giver == other.giver and self.taker == other.taker and self.load == other.load)


def copy_of(note):
    """A note with the same fields, since those of a note can be assigned to."""
    return Note(note.number, note.day, note.giver, note.taker, note.load)


def up_to(notes, day):
    """The list of the notes whose day is at most this one, of all of them if it is None."""
    return [note for note in notes if day is None or note.day <= day]


def sum_of(notes):
    """The sum of the loads of the notes."""
    loads = [note.load for note in notes]
    return Load.total(*loads)


def sum_between(notes, one, other):
    """The sum of the loads from one house to another one, minus the sum of those from other to one."""
    given = [note for note in notes if note.giver == one and note.taker == other]
    taken = [note for note in notes if note.giver == other and note.taker == one]
    return sum_of(given) - sum_of(taken)


def sum_from(notes, house):
    """The sum of the loads from a house, minus the sum of those to it."""
    given = [note for note in notes if note.giver == house]
    taken = [note for note in notes if note.taker == house]
    return sum_of(given) - sum_of(taken)
