"""Books that keep to a limit, and books that count their entries."""

from crateround.books import Book
from crateround.checks import ascending, is_integer
from crateround.errors import InvalidLimit, OverLimit
from crateround.ledgers import CLOSE, SAY, WITHDRAW
from crateround.settlings import check_fair
from crateround.spans import SpanLedger


class GuardedBook(Book):
    """A book that refuses what could bring the worth of a balance above the limit."""

    def __init__(self, exchanges, weights, limit):
        check_fair(exchanges, weights)
        check_form(limit)
        Book.__init__(self, exchanges)
        self._weights = {kind: weights[kind] for kind in ascending(weights)}
        self._limit = limit
        self._ledger = SpanLedger(self._weights)

    @property
    def weights(self):
        """A dict from kinds to what they weigh; others weigh 1."""
        return dict(self._weights)

    @property
    def limit(self):
        """The most that a balance may be worth, in either direction."""
        return self._limit

    @limit.setter
    def limit(self, value):
        self.set_limit(value)

    def set_limit(self, limit):
        """Set the limit, which the book must keep as it is."""
        check_form(limit)
        self._ledger.check_limit(limit)
        self._limit = limit

    def __eq__(self, other):
        return (isinstance(other, GuardedBook) and self._is_like(other)
                and self._limit == other._limit and self._weights == other._weights)

    def _perform(self, step):
        """Perform a new step, unless the limit refuses it."""
        undone = self._ledger.undone
        super()._perform(step)
        try:
            self._ledger.check_limit(self._limit)
        except OverLimit:
            self._ledger.take_back(1)
            self._ledger.undone = undone
            raise

    def _take_back(self, count):
        """Take back so many steps, unless the limit refuses it."""
        super()._take_back(count)
        try:
            self._ledger.check_limit(self._limit)
        except OverLimit:
            self._ledger.perform_again(count)
            raise

    def _perform_again(self, count):
        """Perform again so many steps, unless the limit refuses it."""
        super()._perform_again(count)
        try:
            self._ledger.check_limit(self._limit)
        except OverLimit:
            self._ledger.take_back(count)
            raise


class CountedBook(Book):
    """A book that counts the entries that were performed or redone, also those taken back later."""

    def __init__(self, exchanges):
        Book.__init__(self, exchanges)
        self._many = {CLOSE: 0, SAY: 0, WITHDRAW: 0}

    @property
    def counts(self):
        """A dict from the words of entries to how many there were so far."""
        return dict(self._many)

    def _perform(self, step):
        """Perform a new step and count it."""
        super()._perform(step)
        self._count_last(1)

    def _perform_again(self, count):
        """Perform again so many steps and count them."""
        super()._perform_again(count)
        self._count_last(count)

    def _count_last(self, count):
        """Count the entries of so many of the last steps."""
        done = self._ledger.done
        for step in done[len(done) - count:]:
            self._many[step.entry[0]] += 1


class GuardedCountedBook(CountedBook, GuardedBook):
    """A book that keeps to a limit and counts its entries.

    What CountedBook adds comes around what GuardedBook adds, so that refused entries are not counted.
    """

    def __init__(self, exchanges, weights, limit):
        CountedBook.__init__(self, exchanges)
        GuardedBook.__init__(self, exchanges, weights, limit)


def check_form(limit):
    """Raise InvalidLimit if any value is not an integer from 0 on."""
    if not is_integer(limit) or limit < 0:
        raise InvalidLimit(limit)
