"""A counter: what is in stock is exchanged by the rules, pair by pair."""

from crateround.checks import is_integers
from crateround.errors import InvalidLoad, TooMany
from crateround.forms import is_stock
from crateround.rows import load_of, ranked, row_of

MOST_STOCKS = 2000


class Counter:
    """A counter that exchanges by these rules and has this stock at first."""

    def __init__(self, exchanges, stock):
        if not is_stock(stock):
            raise InvalidLoad(stock)
        self._pairs = exchanges.pairs
        self._kinds = exchanges.kinds
        self._first = tuple(row_of(stock, exchanges.kinds))
        # No use changes the kinds that are in no pair.
        self._others = stock - load_of(self._first, exchanges.kinds)

    def stocks(self):
        """All stocks that can be reached, by the fewest uses that lead to them, then by their counts."""
        layers, _ = self._search()
        for layer in layers:
            for row in ranked(layer):
                yield self._load(row)

    def stock_count(self):
        """How many stocks can be reached."""
        _, ways = self._search()
        return len(ways)

    def uses_to(self, goal):
        """The first one of the shortest lists of uses that lead to this load, None if none does."""
        _, ways = self._search()
        row = tuple(row_of(goal, self._kinds))
        if row not in ways or self._load(row) != goal:
            return None
        uses = []
        way = ways[row]
        while way is not None:
            row, use = way
            uses.append(use)
            way = ways[row]
        return uses[::-1]

    def is_use(self, stock, value):
        """Whether any value is a use that this stock allows."""
        if not is_integers(value, 2):
            return False
        index, way = value
        if not 0 <= index < len(self._pairs) or way not in (0, 1):
            return False
        return self._pairs[index][way] <= stock

    def _search(self):
        """(layers, ways): the rows that can be reached, in a list for each number of uses.

        ways tells the row before each one, and the use of it. Rows are taken in the order of the
        first lists that lead to them, and uses in ascending order, so that what is found first is
        the first one of the shortest lists.
        """
        uses = self._uses()
        ways = {self._first: None}
        layers = []
        layer = [self._first]
        while layer:
            layers.append(layer)
            later = []
            for row in layer:
                for use, given, taken in uses:
                    after = exchanged_row(row, given, taken)
                    if after is None or after in ways:
                        continue
                    if len(ways) == MOST_STOCKS:
                        raise TooMany(MOST_STOCKS)
                    ways[after] = (row, use)
                    later.append(after)
            layer = later
        return layers, ways

    def _uses(self):
        """All uses in ascending order, each with the rows of what it gives and what it takes."""
        found = []
        for index, pair in enumerate(self._pairs):
            left, right = [row_of(side, self._kinds) for side in pair]
            found.append(((index, 0), left, right))
            found.append(((index, 1), right, left))
        return found

    def _load(self, row):
        """The load with these counts of the kinds of the rules."""
        return self._others + load_of(row, self._kinds)


def exchanged_row(row, given, taken):
    """The row after what is given was exchanged for what is taken, None if it is not there."""
    rest = [count - less for count, less in zip(row, given)]
    if any([count < 0 for count in rest]):
        return None
    return tuple([count + more for count, more in zip(rest, taken)])
