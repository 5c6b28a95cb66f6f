"""A book by the words of the document, for comparison: everything is replayed from the entries."""

from crateround.errors import Closed, InvalidDay, InvalidSettling, NoNote, NotASide, OtherPair, OutOfRange
from crateround.loads import Load


def integer(value):
    return isinstance(value, int) and not isinstance(value, bool)


class Model:

    def __init__(self, rules):
        self.rules, self.done, self.undone, self.floors = rules, [], [], []

    def replayed(self):
        """(standing notes by (house, number), sets of two houses by number, last closed day)."""
        standing, pairs, closed = {}, {}, None
        for word, *told in self.done:
            if word == "say":
                house, note = told
                standing[house, note.number] = note
                pairs[note.number] = {note.giver, note.taker}
            elif word == "withdraw":
                del standing[told[0], told[1]]
            else:
                closed, settling = told
                for number, chosen in settling:
                    note = standing.get((chosen, number))
                    for house in pairs[number]:
                        standing.pop((house, number), None)
                        if chosen is not None:
                            standing[house, number] = note
        return standing, pairs, closed

    def notes_of(self, number):
        standing, _, _ = self.replayed()
        return {house: note for (house, other), note in standing.items() if other == number}

    def status(self, number):
        notes = list(self.notes_of(number).values())
        if len(notes) == 2:
            return "agreed" if vars_of(notes[0]) == vars_of(notes[1]) else "unlike"
        return "open" if notes else "void"

    def numbers(self):
        return sorted({number for _, number in self.replayed()[0]})

    def houses(self):
        notes = self.replayed()[0].values()
        return tuple(sorted({note.giver for note in notes} | {note.taker for note in notes}))

    def agreed(self, day):
        found = []
        for number in self.numbers():
            if self.status(number) == "agreed":
                note = list(self.notes_of(number).values())[0]
                if day is None or note.day <= day:
                    found.append(note)
        return found

    def exact(self, one, other, day=None):
        counts = {}
        for note in self.agreed(day):
            sign = {(one, other): 1, (other, one): -1}.get((note.giver, note.taker), 0)
            for kind, count in note.load.counts.items():
                counts[kind] = counts.get(kind, 0) + sign * count
        return Load.of(counts)

    def balances(self, day=None):
        found = {}
        for one in self.houses():
            for other in self.houses():
                plain = self.rules.plain(self.exact(one, other, day))
                if one < other and plain != Load():
                    found[one, other] = plain
        return found

    def say(self, house, note):
        standing, pairs, closed = self.replayed()
        if house not in (note.giver, note.taker):
            raise NotASide(house)
        if pairs.get(note.number, {note.giver, note.taker}) != {note.giver, note.taker}:
            raise OtherPair(note.number)
        before = standing.get((house, note.number), note)
        if closed is not None and min(note.day, before.day) <= closed:
            raise Closed(note.number)
        self.enter(("say", house, note))

    def withdraw(self, house, number):
        standing, _, closed = self.replayed()
        if (house, number) not in standing:
            raise NoNote(number)
        if closed is not None and standing[house, number].day <= closed:
            raise Closed(number)
        self.enter(("withdraw", house, number))

    def due(self, day):
        return [number for number in self.numbers() if self.status(number) in ("open", "unlike")
                and min(note.day for note in self.notes_of(number).values()) <= day]

    def close(self, day, settling):
        closed = self.replayed()[2]
        if not integer(day) or (closed is not None and day <= closed):
            raise InvalidDay(day)
        if type(settling) is not dict or not all(integer(key) for key in settling):
            raise InvalidSettling(settling)
        due = self.due(day)
        for number in due:
            choices = list(self.notes_of(number)) + [None] * (self.status(number) == "open")
            if number not in settling or settling[number] not in choices:
                raise InvalidSettling(number)
        for number in sorted(settling):
            if number not in due:
                raise InvalidSettling(number)
        self.enter(("close", day, tuple(sorted(settling.items()))))

    def enter(self, entry):
        self.done.append(entry)
        self.undone = []

    def undo(self, count=1):
        if not integer(count) or not 0 <= count <= len(self.done) - ([0] + self.floors)[-1]:
            raise OutOfRange(count)
        for _ in range(count):
            self.undone.append(self.done.pop())

    def redo(self, count=1):
        if not integer(count) or not 0 <= count <= len(self.undone):
            raise OutOfRange(count)
        for _ in range(count):
            self.done.append(self.undone.pop())

    def attempt(self, action, keep=True):
        before = list(self.done), list(self.undone)
        self.floors.append(len(self.done))
        try:
            result = action(self)
        except BaseException:
            self.done, self.undone = before
            raise
        finally:
            self.floors.pop()
        if not keep:
            self.done, self.undone = before
        return result

    def explore(self, action):
        return self.attempt(action, False)


def vars_of(note):
    return note.number, note.day, note.giver, note.taker, note.load.counts


def fields_of(entry):
    """The entry with the fields of its note, in a form that compares without the package."""
    return tuple(vars_of(part) if hasattr(part, "giver") else part for part in entry)


def check_like(case, book, model, days=(None,)):
    """The book shows what the model shows, in all that it has."""
    standing, _, closed = model.replayed()
    case.assertEqual(tuple(map(fields_of, book.history())), tuple(map(fields_of, model.done)))
    case.assertEqual(book.numbers(), model.numbers())
    case.assertEqual(book.houses, model.houses())
    case.assertEqual(book.closed, closed)
    case.assertEqual(book.depth, len(model.floors))
    for number in [*range(8), *model.numbers()]:
        case.assertEqual(book.status(number), model.status(number))
        for house in ("ann", "bo", "cy", "di"):
            note, wanted = book.standing(house, number), standing.get((house, number))
            case.assertEqual(note and vars_of(note), wanted and vars_of(wanted))
    for day in days:
        check_balances(case, book, model, day)


def check_balances(case, book, model, day):
    houses = sorted({"ann", "bo", "cy", "zoe", *model.houses()})
    case.assertEqual(book.balances(day), model.balances(day))
    case.assertEqual(list(book.balances(day)), sorted(model.balances(day)))
    for one in houses:
        net = Load()
        for other in houses:
            exact = model.exact(one, other, day)
            net = net + exact
            case.assertEqual(book.balance(one, other, day, exact=True), exact)
            case.assertEqual(book.balance(one, other, day), model.rules.plain(exact))
        case.assertEqual(book.net(one, day, exact=True), net)
        case.assertEqual(book.net(one, day), model.rules.plain(net))
