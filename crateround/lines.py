"""The lines of written books."""

from crateround.checks import is_word
from crateround.errors import InvalidText
from crateround.ledgers import CLOSE, SAY, WITHDRAW
from crateround.loads import Load, count_reach
from crateround.notes import Note

NOBODY = "-"


def line_of(entry):
    """The line of an entry, without a newline."""
    word, *told = entry
    if word == SAY:
        house, note = told
        return f"{word} {house} {note.number} {note.day} {note.giver} {note.taker} {note.load.text()}"
    if word == WITHDRAW:
        house, number = told
        return f"{word} {house} {number}"
    day, settling = told
    parts = [f"{number} {NOBODY if house is None else house}" for number, house in settling]
    return " ".join([word, str(day), *parts])


def parts_of(line):
    """What a line of bytes tells: the word of the entry and its fields, None if it has no such form.

    A form tells less than an entry: the fields need not make a note, or fit the book.
    """
    try:
        text = line.decode("ascii")
    except ValueError:
        return None
    word = text.split(" ")[0]
    if word == SAY:
        return say_parts(text)
    if word == WITHDRAW:
        return withdraw_parts(text)
    return close_parts(text) if word == CLOSE else None


def say_parts(text):
    """The parts of a line by which a house says a note."""
    parts = text.split(" ", 6)
    if len(parts) < 7:
        return None
    word, house, number, day, giver, taker, counts = parts
    if not all([is_word(part) for part in (house, giver, taker)]):
        return None
    if not is_integer_text(number) or not is_integer_text(day):
        return None
    try:
        load = Load.read(counts)
    except InvalidText:
        return None
    return word, house, int(number), int(day), giver, taker, load


def withdraw_parts(text):
    """The parts of a line by which a house withdraws a note."""
    parts = text.split(" ")
    if len(parts) != 3 or not is_word(parts[1]) or not is_integer_text(parts[2]):
        return None
    return parts[0], parts[1], int(parts[2])


def close_parts(text):
    """The parts of a line by which days are closed."""
    word, *parts = text.split(" ")
    numbers = parts[1::2]
    houses = parts[2::2]
    if len(parts) != 1 + 2 * len(houses):
        return None
    if not all([is_integer_text(part) for part in (parts[0], *numbers)]):
        return None
    if not all([part == NOBODY or is_word(part) for part in houses]):
        return None
    values = [int(part) for part in numbers]
    if any([value >= later for value, later in zip(values, values[1:])]):
        return None
    chosen = [None if part == NOBODY else part for part in houses]
    return word, int(parts[0]), dict(zip(values, chosen))


def is_integer_text(text):
    """Whether the text is an integer as it is written, 0 too."""
    return text == "0" or (count_reach(text) == len(text) and text not in ("", "-"))


def enter(book, parts):
    """Perform the entry that the parts of a line tell."""
    word, *told = parts
    if word == SAY:
        house, number, day, giver, taker, load = told
        book.say(house, Note(number, day, giver, taker, load))
    elif word == WITHDRAW:
        house, number = told
        book.withdraw(house, number)
    else:
        day, settling = told
        book.close(day, settling)
