"""The examples of the document and of README.md."""

import doctest
import os
import unittest

from crateround.books import Book
from crateround.counters import Counter
from crateround.drives import Yard, first_order
from crateround.exchanges import Exchanges
from crateround.loads import Load
from crateround.notes import Note
from crateround.rings import after_rings, rings
from crateround.settlings import choices, is_sure, possible_balances
from helpers import halves

ROOT = os.path.dirname(os.path.dirname(os.path.abspath(__file__)))


class ExamplesTest(unittest.TestCase):

    def test_loads(self):
        self.assertEqual(
            [Load(box=3, tray=-1).text(), (2 * Load(box=3) - Load(tray=1)).counts, Load(box=1) < Load(box=1, tray=1)],
            ["box 3 tray -1", {"box": 6, "tray": -1}, True])

    def test_exchanges(self):
        halves = Exchanges((Load(half=2), Load(whole=1)), (Load(whole=2), Load(rack=2)))
        self.assertEqual(
            [halves.steps, halves.plain(Load(half=5)).counts, halves.is_equivalent(Load(whole=1), Load(rack=1)),
             halves.order(Load(whole=1, rack=-1))],
            [{"half": 2, "rack": 2}, {"half": 1, "whole": 2}, False, 2])
        self.assertEqual(
            [halves.structure(), halves.is_weighting(Load(whole=1), Load(rack=1), ({"rack": 1}, 2)),
             halves.fairness()[0]],
            [((2,), 1), True, "fair"])

    def test_counters(self):
        self.assertEqual(
            [[stock.counts for stock in Counter(halves(), Load(half=3)).stocks()],
             Counter(halves(), Load(half=3)).uses_to(Load(half=1, whole=1))],
            [[{"half": 3}, {"half": 1, "whole": 1}], [(0, 0)]])

    def test_books(self):
        book = Book(halves())
        note = Note(1, 5, "ann", "bo", Load(half=3))
        self.assertEqual(
            [book.say("ann", note), book.status(1), book.say("bo", note), book.balance("ann", "bo").counts,
             book.balance("bo", "ann").counts],
            [None, "open", None, {"half": 1, "whole": 1}, {"half": 1, "whole": -2}])
        self.assertEqual(book.written(), b"say ann 1 5 ann bo half 3\nsay bo 1 5 ann bo half 3\n")
        self.check_settlings(book)

    def check_settlings(self, book):
        self.assertEqual(
            [book.say("ann", Note(2, 6, "ann", "bo", Load(half=2))), book.say("bo", Note(2, 6, "ann", "bo", Load(whole=1)))],
            [None, None])
        self.assertEqual(
            [book.status(2), choices(book, 2), is_sure(book, "ann", "bo"),
             possible_balances(book, "ann", "bo")[0].counts],
            ["unlike", ("ann", "bo"), True, {"half": 1, "whole": 2}])

    def test_rings(self):
        debts = {("ann", "bo"): Load(half=1), ("ann", "cy"): Load(half=-1), ("bo", "cy"): Load(whole=-1, half=3)}
        self.assertEqual(
            [len(rings(halves(), debts)), after_rings(halves(), debts, [(("ann", "bo", "cy"), Load(half=1))])],
            [1, {}])

    def test_drives(self):
        yard = Yard(halves(), {"ann": Load(half=2), "bo": Load(whole=-1), "cy": Load()}, [("ann", "bo"), ("bo", "cy")],
                    ["bo"])
        self.assertEqual(
            [yard.fewest(), yard.parts(), yard.stuck(), Yard(halves(), yard.nets, yard.roads).stuck()],
            [1, (("ann", "bo"), ("cy",)), None, ("ann", "bo", "cy")])
        self.assertEqual(first_order([("bo", "cy", Load(half=1)), ("ann", "bo", Load(half=2))], {"ann": Load(half=2)}),
                         (1, 0))

    def test_readme(self):
        found = doctest.testfile(os.path.join(ROOT, "README.md"), module_relative=False)
        self.assertGreater(found.attempted, 5)
        self.assertEqual(found.failed, 0)


if __name__ == "__main__":
    unittest.main()
