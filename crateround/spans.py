"""Ledgers that keep what the balance of each two houses can weigh, so that not all notes are weighed anew."""

from crateround.checks import ascending_pairs
from crateround.errors import OverLimit
from crateround.ledgers import Ledger
from crateround.notes import sum_between
from crateround.rows import worth_of


class SpanLedger(Ledger):
    """A ledger with the least and the greatest worth of the balance of each two houses, the lesser one first."""

    def __init__(self, kind_weights):
        Ledger.__init__(self)
        self.kind_weights = kind_weights
        self.spans = {}

    def duplicate(self):
        """A ledger that holds the same and is changed apart from this one."""
        found = SpanLedger(self.kind_weights)
        self.copy_to(found)
        found.spans = {sides: self.spans[sides] for sides in self.spans}
        return found

    def change(self, number, before, after):
        """Put a record after another one."""
        super().change(number, before, after)
        for record, sign in ((before, -1), (after, 1)):
            if record.sides:
                low, high = span_of(record, self.kind_weights)
                least, greatest = self.spans.get(record.sides, (0, 0))
                self.spans[record.sides] = (least + sign * low, greatest + sign * high)

    def check_limit(self, limit):
        """Raise OverLimit with the first two houses whose balance could get above the limit."""
        over = [sides for sides, (least, greatest) in self.spans.items() if least < -limit or greatest > limit]
        if over:
            one, other = ascending_pairs(over)[0]
            raise OverLimit(one, other)


def span_of(record, weights):
    """The least and the greatest worth that a record can add to the balance of its sides."""
    one, other = record.sides
    found = [worth_of(sum_between(notes, one, other), weights) for notes in record.possible_notes()]
    return min(found, key=int), max(found, key=int)
