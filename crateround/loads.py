"""Loads: a count for each kind of carrier."""

from crateround.checks import MOST_LETTERS, ascending, is_integer, is_word
from crateround.errors import InvalidLoad, InvalidText

DIGITS = "0123456789"
MOST_DIGITS = 80
NOTHING = "-"
LAST_KIND = "zzzzzzzz"


class Load:
    """A load: a count of any sign for each kind, 0 for a kind without one."""

    def __init__(self, **counts):
        check_counts(counts)
        self._counts = tidy_counts(counts)

    @classmethod
    def of(cls, counts):
        """The load with the counts of a dict."""
        if not isinstance(counts, dict) or not all([isinstance(kind, str) for kind in counts]):
            raise InvalidLoad(counts)
        check_counts(counts)
        # Not by **counts, which the kind self would not pass.
        load = Load()
        load._counts = tidy_counts(counts)
        return load

    @classmethod
    def read(cls, text):
        """The load with this text."""
        if not isinstance(text, str):
            raise InvalidText(0)
        if text == NOTHING:
            return cls()
        if text.startswith(NOTHING):
            raise InvalidText(len(NOTHING))
        return cls.of(read_counts(text))

    @staticmethod
    def total(first=None, *loads):
        """The sum of the loads, nothing if there are none."""
        # The first one has a name of its own since LANGUAGE.md (L4) wants a plain first parameter.
        counts = {}
        given = [] if first is None else [first, *loads]
        for load in given:
            for kind, count in load._counts.items():
                counts[kind] = counts.get(kind, 0) + count
        return Load.of(counts)

    @property
    def counts(self):
        """A dict from the kinds with a count other than 0 to their counts."""
        return dict(self._counts)

    @property
    def kinds(self):
        """The kinds with a count other than 0, ascending."""
        return tuple(self._counts)

    @property
    def positive(self):
        """The load with only the counts above 0."""
        return Load.of({kind: count for kind, count in self._counts.items() if count > 0})

    @property
    def negative(self):
        """The load with only the counts below 0, each with its sign turned."""
        return Load.of({kind: -count for kind, count in self._counts.items() if count < 0})

    def text(self):
        """The counts as a text, in ascending order of kinds."""
        if not self._counts:
            return NOTHING
        return " ".join([f"{kind} {count}" for kind, count in self._counts.items()])

    def __getitem__(self, at):
        return self._counts.get(at, 0)

    def __iter__(self):
        # Python would otherwise try the indexes from 0 on, without an end.
        raise TypeError("a load is not iterated over")

    def __contains__(self, x):
        return isinstance(x, str) and x in self._counts

    def __len__(self):
        return len(self._counts)

    def __bool__(self):
        return bool(self._counts)

    def __add__(self, other):
        if not isinstance(other, Load):
            return NotImplemented
        return Load.total(self, other)

    def __sub__(self, other):
        if not isinstance(other, Load):
            return NotImplemented
        return Load.total(self, -other)

    def __neg__(self):
        return Load.of({kind: -count for kind, count in self._counts.items()})

    def __mul__(self, other):
        if not is_integer(other):
            return NotImplemented
        return Load.of({kind: count * other for kind, count in self._counts.items()})

    def __rmul__(self, other):
        if not is_integer(other):
            return NotImplemented
        return self * other

    def __eq__(self, other):
        return isinstance(other, Load) and self._counts == other._counts

    def __le__(self, other):
        if not isinstance(other, Load):
            return NotImplemented
        return all([self[kind] <= other[kind] for kind in [*self._counts, *other._counts]])

    def __lt__(self, other):
        if not isinstance(other, Load):
            return NotImplemented
        return self <= other and self != other

    def __ge__(self, other):
        if not isinstance(other, Load):
            return NotImplemented
        return other <= self

    def __gt__(self, other):
        if not isinstance(other, Load):
            return NotImplemented
        return other < self


def check_counts(counts):
    """Raise InvalidLoad with the first key that is not a word or whose count is no integer."""
    for kind in ascending(counts):
        if not is_word(kind) or not is_integer(counts[kind]):
            raise InvalidLoad(kind)


def tidy_counts(counts):
    """The counts other than 0, in ascending order of kinds."""
    return {kind: counts[kind] for kind in ascending(counts) if counts[kind] != 0}


def read_counts(text):
    """The counts that a text other than - tells."""
    parts = text.split(" ")
    counts = {}
    last = ""
    at = 0
    for place in range(0, len(parts), 2):
        if last == LAST_KIND:
            # No kind can follow, so that the space behind the count is already too much.
            raise InvalidText(at - 1)
        kind = parts[place]
        reach = kind_reach(kind, last)
        at += reach
        if reach < len(kind) or kind <= last or place + 1 == len(parts):
            raise InvalidText(at)
        count = parts[place + 1]
        reach = count_reach(count)
        at += 1 + reach
        if reach < len(count) or count in ("", "-"):
            raise InvalidText(at)
        counts[kind] = int(count)
        last = kind
        at += 1
    return counts


def kind_reach(part, last):
    """How many letters of the part begin a kind that comes after the last one."""
    reach = 0
    for letter in part[:MOST_LETTERS]:
        if not "a" <= letter <= "z":
            break
        greatest = part[:reach + 1] + LAST_KIND[reach + 1:]
        if greatest <= last:
            break
        reach += 1
    return reach


def count_reach(part):
    """How many characters of the part begin a count as it is written."""
    start = 1 if part.startswith("-") else 0
    reach = start
    for letter in part[start:start + MOST_DIGITS]:
        if letter not in DIGITS or (letter == "0" and reach == start):
            break
        reach += 1
    return reach
