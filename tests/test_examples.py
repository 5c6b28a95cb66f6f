"""The examples of the document and of README.md."""

import doctest
import os
import unittest

from crateround.exchanges import Exchanges
from crateround.loads import Load

ROOT = os.path.dirname(os.path.dirname(os.path.abspath(__file__)))


class ExamplesTest(unittest.TestCase):

    def test_loads(self):
        self.assertEqual(
            [Load(box=3, tray=-1).text(), (2 * Load(box=3) - Load(tray=1)).counts, Load(box=1) < Load(box=1, tray=1)],
            ["box 3 tray -1", {"box": 6, "tray": -1}, True])

    def test_exchanges(self):
        halves = Exchanges((Load(half=2), Load(whole=1)), (Load(whole=2), Load(rack=2)))
        self.assertEqual(
            [halves.steps, halves.plain(Load(half=5)).counts, halves.is_equivalent(Load(whole=1), Load(rack=1)),
             halves.order(Load(whole=1, rack=-1))],
            [{"half": 2, "rack": 2}, {"half": 1, "whole": 2}, False, 2])
        self.assertEqual(
            [halves.structure(), halves.is_weighting(Load(whole=1), Load(rack=1), ({"rack": 1}, 2)),
             halves.fairness()[0]],
            [((2,), 1), True, "fair"])

    def test_readme(self):
        found = doctest.testfile(os.path.join(ROOT, "README.md"), module_relative=False)
        self.assertGreater(found.attempted, 5)
        self.assertEqual(found.failed, 0)


if __name__ == "__main__":
    unittest.main()
