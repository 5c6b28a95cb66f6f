"""Point 30: counters."""

import inspect
import itertools
import random
import unittest

from crateround.counters import Counter
from crateround.errors import InvalidLoad, TooMany
from crateround.exchanges import Exchanges
from crateround.loads import Load
from helpers import NOTHING, any_values, halves, random_rules

BIG = 10 ** 80 - 1
SWAP = Exchanges((Load(a=1), Load(b=1)))


def all_uses(rules):
    return [(index, way) for index in range(len(rules.pairs)) for way in (0, 1)]


def after_use(rules, counts, use):
    """The counts after a use, None if what is given is not in stock."""
    index, way = use
    given, taken = rules.pairs[index][way], rules.pairs[index][1 - way]
    found = dict(counts)
    for kind, count in given.counts.items():
        if found.get(kind, 0) < count:
            return None
        found[kind] -= count
    for kind, count in taken.counts.items():
        found[kind] = found.get(kind, 0) + count
    return {kind: count for kind, count in found.items() if count}


def reached(rules, stock):
    """All (number of uses, counts) that can be reached, by the words of the document; None if above 2,000."""
    found = [(0, stock.counts)]
    kinds = sorted({*rules.kinds, *stock.kinds})
    seen = {tuple(stock[kind] for kind in kinds)}
    for many, counts in found:
        for use in all_uses(rules):
            after = after_use(rules, counts, use)
            row = None if after is None else tuple(after.get(kind, 0) for kind in kinds)
            if row is not None and row not in seen:
                seen.add(row)
                found.append((many + 1, after))
        if len(found) > 2000:
            return None
    return sorted(found, key=lambda entry: (entry[0], [entry[1].get(kind, 0) for kind in kinds]))


def first_uses(rules, stock, goal, most):
    """The first list of at most so many uses, shortest ones ahead, that leads to the goal."""
    for many in range(most + 1):
        for uses in itertools.product(all_uses(rules), repeat=many):
            counts = stock.counts
            for use in uses:
                counts = None if counts is None else after_use(rules, counts, use)
            if counts == goal.counts:
                return list(uses)
    return None


class StocksTest(unittest.TestCase):

    def test_fewest_uses_then_counts(self):
        counter = Counter(Exchanges((Load(a=1), Load(b=1)), (Load(b=1), Load(c=1))), Load(a=1, b=1))
        self.assertEqual(
            [stock.text() for stock in counter.stocks()],
            ["a 1 b 1", "b 2", "a 1 c 1", "a 2", "b 1 c 1", "c 2"])
        self.assertEqual(counter.stock_count(), 6)

    def test_counts_are_compared_as_numbers(self):
        """9, 10 and 100 of a kind come in this order, and 9 b ahead of 1 a."""
        rules = Exchanges((Load(x=1), Load(a=100)), (Load(y=1), Load(a=9)), (Load(z=1), Load(a=10)),
                          (Load(x=1), Load(b=9)))
        found = [stock.text() for stock in Counter(rules, Load(x=1, y=1, z=1)).stocks()]
        self.assertEqual(found[:5], ["x 1 y 1 z 1", "b 9 y 1 z 1", "a 9 x 1 z 1", "a 10 x 1 y 1", "a 100 y 1 z 1"])

    def test_as_the_document_says(self):
        chosen = random.Random(30)
        checked = 0
        for number in range(120):
            rules = random_rules(chosen, chosen.randint(0, 4), "abcd"[:chosen.randint(1, 4)], 3, 0.6)
            stock = Load.of({kind: chosen.randint(0, 12) for kind in "abcdz" if chosen.random() < 0.7})
            counter = Counter(rules, stock)
            wanted = reached(rules, stock)
            if wanted is None:
                with self.assertRaises(TooMany):
                    counter.stock_count()
                continue
            checked += 1
            self.assertEqual([found.counts for found in counter.stocks()], [counts for _, counts in wanted])
            self.assertEqual(counter.stock_count(), len(wanted))
            for many, counts in wanted[:40]:
                uses = counter.uses_to(Load.of(counts))
                self.assertEqual(len(uses), many)
                if len(all_uses(rules)) ** many <= 300:
                    self.assertEqual(uses, first_uses(rules, stock, Load.of(counts), many))
        self.assertGreater(checked, 40)

    def test_pairs_that_change_nothing(self):
        rules = Exchanges((NOTHING, NOTHING), (Load(a=2), Load(a=2)))
        counter = Counter(rules, Load(a=2, b=1))
        self.assertEqual(list(counter.stocks()), [Load(a=2, b=1)])
        self.assertEqual(counter.uses_to(Load(a=2, b=1)), [])
        for rules in (Exchanges(), Exchanges((NOTHING, NOTHING))):
            self.assertEqual(list(Counter(rules, NOTHING).stocks()), [NOTHING])
            self.assertEqual(Counter(rules, Load(a=3)).stock_count(), 1)

    def test_what_is_given_must_be_in_stock(self):
        """Equivalent stocks are not reached if no use is allowed on the way."""
        rules = Exchanges((Load(a=2), Load(b=2)), (Load(a=3), Load(c=1)))
        self.assertEqual([stock.text() for stock in Counter(rules, Load(a=1, b=1)).stocks()], ["a 1 b 1"])
        self.assertEqual([stock.text() for stock in Counter(rules, Load(a=1, b=2)).stocks()],
                         ["a 1 b 2", "a 3", "c 1"])
        self.assertIsNone(Counter(rules, Load(b=3)).uses_to(Load(c=1)))
        self.assertEqual(Counter(rules, Load(a=1, b=2)).uses_to(Load(c=1)), [(0, 1), (1, 0)])

    def test_kinds_outside_the_rules_stay(self):
        counter = Counter(SWAP, Load(a=1, aa=BIG, z=3))
        self.assertEqual([stock.counts for stock in counter.stocks()],
                         [{"a": 1, "aa": BIG, "z": 3}, {"aa": BIG, "b": 1, "z": 3}])
        self.assertEqual(counter.uses_to(Load(b=1, aa=BIG, z=3)), [(0, 0)])
        for goal in (Load(b=1), Load(b=1, aa=BIG, z=2), Load(b=1, aa=BIG, z=3, zz=1)):
            self.assertIsNone(counter.uses_to(goal))

    def test_great_counts(self):
        rules = Exchanges((Load(a=10 ** 6), Load(b=1)))
        self.assertEqual(Counter(rules, Load(a=10 ** 9)).stock_count(), 1001)
        with self.assertRaises(TooMany):
            Counter(rules, Load(a=BIG)).stock_count()
        self.assertEqual(Counter(Exchanges((Load(b=1), Load(c=1))), Load(a=BIG, b=1)).stock_count(), 2)

    def test_a_generator(self):
        counter = Counter(halves(), Load(half=9, whole=3))
        self.assertTrue(inspect.isgenerator(counter.stocks()))
        one, other = counter.stocks(), counter.stocks()
        first = next(one)
        self.assertEqual(first, Load(half=9, whole=3))
        self.assertEqual([first, *one], list(other))

    def test_uses_are_the_first_ones(self):
        """Of two pairs alike the first one, and of two ways to a stock the lesser one."""
        rules = Exchanges((Load(b=1), Load(a=1)), (Load(a=1), Load(b=1)), (Load(a=1), Load(b=1)))
        self.assertEqual(Counter(rules, Load(a=2)).uses_to(Load(b=2)), [(0, 1), (0, 1)])
        rules = Exchanges((Load(c=1), Load(d=1)), (Load(a=1), Load(b=1)))
        self.assertEqual(Counter(rules, Load(a=1, c=1)).uses_to(Load(b=1, d=1)), [(0, 0), (1, 0)])
        found = Counter(rules, Load(a=1, c=1)).uses_to(NOTHING + Load(a=1, c=1))
        self.assertEqual(found, [])
        self.assertIs(type(found), list)

    def test_goals_that_cannot_be_reached(self):
        counter = Counter(halves(), Load(half=3))
        for goal in (NOTHING, Load(half=-1), Load(half=5, whole=-1), Load(whole=1), Load(other=1), Load(half=4)):
            self.assertIsNone(counter.uses_to(goal))


class TooManyTest(unittest.TestCase):

    def check_too_many(self, call):
        with self.assertRaises(TooMany) as caught:
            call()
        self.assertEqual(caught.exception.most, 2000)

    def test_exactly_2000(self):
        counter = Counter(SWAP, Load(a=1999))
        self.assertEqual(counter.stock_count(), 2000)
        found = list(counter.stocks())
        self.assertEqual([stock.counts for stock in found],
                         [Load(a=1999 - many, b=many).counts for many in range(2000)])
        self.assertEqual(counter.uses_to(Load(b=1999)), [(0, 0)] * 1999)
        self.assertIsNone(counter.uses_to(Load(b=2000)))

    def test_more_than_2000(self):
        gifts = Exchanges((NOTHING, Load(a=1)))
        for counter, stock in [(Counter(SWAP, Load(a=2000)), Load(a=2000)), (Counter(gifts, NOTHING), NOTHING),
                               (Counter(SWAP, Load(a=BIG)), Load(a=BIG))]:
            stocks = counter.stocks()
            self.check_too_many(lambda: next(stocks))
            self.check_too_many(counter.stock_count)
            for goal in (stock, stock - Load(a=1) + Load(b=1), NOTHING, Load(other=1), Load(a=-1)):
                self.check_too_many(lambda: counter.uses_to(goal))

    def test_asking_for_uses_has_no_bound(self):
        counter = Counter(SWAP, Load(a=BIG))
        self.assertIs(counter.is_use(Load(a=BIG), (0, 0)), True)


class UseTest(unittest.TestCase):

    def test_uses(self):
        counter = Counter(halves(), NOTHING)
        for stock, allowed in [(NOTHING, []), (Load(half=1, whole=1), [(0, 1)]), (Load(half=2), [(0, 0)]),
                               (Load(half=2, whole=2), [(0, 0), (0, 1), (1, 0)]), (Load(rack=2), [(1, 1)]),
                               (Load(half=1, rack=1, other=9), [])]:
            for use in itertools.product(range(-3, 4), range(-3, 4)):
                self.assertIs(counter.is_use(stock, use), use in allowed, (stock.text(), use))

    def test_nothing_is_always_in_stock(self):
        counter = Counter(Exchanges((NOTHING, Load(a=1))), NOTHING)
        self.assertIs(counter.is_use(NOTHING, (0, 0)), True)
        self.assertIs(counter.is_use(NOTHING, (0, 1)), False)
        self.assertIs(counter.is_use(Load(a=1, b=1), (0, 1)), True)

    def test_any_value(self):
        counter = Counter(halves(), Load(half=2))
        stock = Load(half=9, whole=9, rack=9)
        self.assertIs(counter.is_use(stock, (0, 0)), True)
        for value in [*any_values(), [0, 0], (0,), (0, 0, 0), (False, 0), (0, False), (True, 0), (0, True), (2, 0),
                      (0, 2), (-1, 0), (0, -1), (-2, 1), ("0", 0), (0, None), (10 ** 79, 0), (0, 10 ** 79), [(0, 0)],
                      ((0, 0),), Load(half=2), halves(), counter, (Load(), 0), (0, Load())]:
            self.assertIs(counter.is_use(stock, value), False, value)
        for value in [(0, 0), (0, 1), None]:
            self.assertIs(Counter(Exchanges(), stock).is_use(stock, value), False)


class MakingTest(unittest.TestCase):

    def test_negative_counts(self):
        for stock in (Load(half=-1), Load(half=3, other=-1), Load(a=BIG, b=-BIG)):
            with self.assertRaises(InvalidLoad) as caught:
                Counter(halves(), stock)
            self.assertIs(caught.exception.value, stock)

    def test_by_name_and_again(self):
        rules, stock = halves(), Load(half=5, whole=1)
        counter = Counter(exchanges=rules, stock=stock)
        for _ in range(2):
            self.assertEqual(list(counter.stocks()), list(Counter(rules, stock).stocks()))
            self.assertEqual(counter.uses_to(goal=Load(half=1, whole=3)), [(0, 0), (0, 0)])
            self.assertIs(counter.is_use(stock=stock, value=(0, 0)), True)
        found = counter.uses_to(Load(half=1, whole=3))
        found.clear()
        self.assertEqual(counter.uses_to(Load(half=1, whole=3)), [(0, 0), (0, 0)])
        self.assertEqual((rules.pairs, stock.text()), (halves().pairs, "half 5 whole 1"))

    def test_of_rules_that_were_returned(self):
        rules = Exchanges((Load(a=2), Load(b=4))) | Exchanges((Load(c=1), Load(a=3)))
        counter = Counter(rules, Load(a=4, c=1))
        self.assertEqual([stock.counts for stock in counter.stocks()],
                         [counts for _, counts in reached(rules, Load(a=4, c=1))])


if __name__ == "__main__":
    unittest.main()
