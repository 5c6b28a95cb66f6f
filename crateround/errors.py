"""The errors that the package raises.

Each is directly below an error of Python's own and keeps its fields as attributes, in the order in
which they are passed.
"""


class InvalidLoad(ValueError):
    """What was given for a load is none, or not one that fits here."""

    def __init__(self, value):
        ValueError.__init__(self, value)
        self.value = value


class InvalidText(ValueError):
    """A text is not that of a load: index tells how far it begins like one."""

    def __init__(self, index):
        ValueError.__init__(self, index)
        self.index = index


class InvalidPair(ValueError):
    """The argument with this index is not an exchange rule."""

    def __init__(self, index):
        ValueError.__init__(self, index)
        self.index = index


class InvalidWeighting(ValueError):
    """Weights or a modulus from which no rules can be made."""

    def __init__(self, value):
        ValueError.__init__(self, value)
        self.value = value


class InvalidNote(ValueError):
    """The field of a note that is not as it must be."""

    def __init__(self, field):
        ValueError.__init__(self, field)
        self.field = field


class InvalidDay(ValueError):
    """A day that cannot be closed."""

    def __init__(self, value):
        ValueError.__init__(self, value)
        self.value = value


class InvalidSettling(ValueError):
    """A settling, or the number in it, that does not fit the notes in doubt."""

    def __init__(self, value):
        ValueError.__init__(self, value)
        self.value = value


class InvalidData(ValueError):
    """The first line of a written book that cannot be read."""

    def __init__(self, index):
        ValueError.__init__(self, index)
        self.index = index


class InvalidLimit(ValueError):
    """What was given for a limit is none."""

    def __init__(self, value):
        ValueError.__init__(self, value)
        self.value = value


class InvalidYard(ValueError):
    """The field of a yard that is not as it must be."""

    def __init__(self, field):
        ValueError.__init__(self, field)
        self.field = field


class Unfair(ValueError):
    """The sides of the pair with this index do not weigh the same."""

    def __init__(self, index):
        ValueError.__init__(self, index)
        self.index = index


class Uneven(ValueError):
    """The house that is not even."""

    def __init__(self, house):
        ValueError.__init__(self, house)
        self.house = house


class Stuck(ValueError):
    """The houses that show that a yard cannot be evened."""

    def __init__(self, place):
        ValueError.__init__(self, place)
        self.place = place


class OtherPair(ValueError):
    """The number was said for two other houses."""

    def __init__(self, number):
        ValueError.__init__(self, number)
        self.number = number


class NotASide(LookupError):
    """What is neither the giver nor the taker of a note."""

    def __init__(self, value):
        LookupError.__init__(self, value)
        self.value = value


class NoNote(LookupError):
    """The house has no standing note with this number."""

    def __init__(self, number):
        LookupError.__init__(self, number)
        self.number = number


class OutOfRange(LookupError):
    """There are not so many entries."""

    def __init__(self, count):
        LookupError.__init__(self, count)
        self.count = count


class TooMany(OverflowError):
    """There are more than the most that are allowed."""

    def __init__(self, most):
        OverflowError.__init__(self, most)
        self.most = most


class Closed(RuntimeError):
    """The day of the note with this number is closed."""

    def __init__(self, number):
        RuntimeError.__init__(self, number)
        self.number = number


class OverLimit(RuntimeError):
    """The two houses whose balance could get above the limit."""

    def __init__(self, one, other):
        RuntimeError.__init__(self, one, other)
        self.one = one
        self.other = other
