"""Point 70: debts are evened by rings."""

import itertools
import random
import unittest

from crateround.errors import Uneven
from crateround.exchanges import Exchanges
from crateround.loads import Load
from crateround.rings import after_rings, net_loads, rings
from helpers import NOTHING, difference_sum, halves

BIG = 10 ** 80 - 1
HOUSES = ("ann", "bo", "cy", "di", "ed", "flo")
# Under the last ones a multiple is equivalent to nothing, but not the load itself.
RULES = (halves(), Exchanges(), Exchanges((Load(half=3), NOTHING), (Load(whole=2), Load(rack=1))))


def debts():
    return {("ann", "bo"): Load(half=1), ("ann", "cy"): Load(half=-1), ("bo", "cy"): Load(whole=-1, half=3)}


def net(found, house):
    total = NOTHING
    for (one, other), load in found.items():
        total = total + load * ((house == one) - (house == other))
    return total


def even_debts(chosen, rules, houses, many):
    """Debts made by going around so many rings, and by what is equivalent to nothing."""
    found = {}
    for _ in range(many):
        load = Load.of({kind: chosen.randint(-3, 3) for kind in ("half", "whole", "rack", "cart")})
        around = chosen.sample(houses, chosen.randint(2, len(houses)))
        for one, other in zip(around, around[1:] + around[:1]):
            sign = 1 if one < other else -1
            pair = tuple(sorted((one, other)))
            more = difference_sum(rules, [chosen.randint(-2, 2) for _ in rules.pairs])
            found[pair] = found.get(pair, NOTHING) + sign * load + more
    return found


def open_pairs(rules, found):
    return [pair for pair, load in found.items() if load not in rules]


def most_rings(pairs):
    """p - h + c, with the connected sets found by joining sets."""
    sets = [{house} for house in {house for pair in pairs for house in pair}]
    houses = len(sets)
    for one, other in pairs:
        joined = [each for each in sets if one in each or other in each]
        sets = [each for each in sets if each not in joined] + [set().union(*joined)]
    return len(pairs) - houses + len(sets)


class NetTest(unittest.TestCase):

    def test_net_loads(self):
        self.assertEqual(net_loads(halves(), debts()), {"ann": NOTHING, "bo": NOTHING, "cy": NOTHING})
        found = net_loads(debts={("b", "c"): Load(half=3, cart=2), ("a", "c"): Load(half=1)}, exchanges=halves())
        self.assertEqual(list(found), ["a", "b", "c"])
        self.assertEqual(found, {"a": Load(half=1), "b": Load(half=1, whole=1, cart=2),
                                 "c": halves().plain(Load(half=-4, cart=-2))})
        self.assertEqual(net_loads(halves(), {}), {})
        self.assertEqual(net_loads(halves(), {("ann", "bo"): NOTHING}), {"ann": NOTHING, "bo": NOTHING})

    def test_by_definition(self):
        for seed in range(40):
            chosen = random.Random(seed)
            rules = RULES[seed % len(RULES)]
            found = {pair: Load.of({kind: chosen.randint(-9, 9) for kind in ("half", "rack", "cart")})
                     for pair in itertools.combinations(HOUSES, 2) if chosen.random() < 0.5}
            nets = net_loads(rules, found)
            self.assertEqual(list(nets), sorted({house for pair in found for house in pair}))
            for house, load in nets.items():
                self.assertEqual(load, rules.plain(net(found, house)))


class RingsTest(unittest.TestCase):

    def check(self, rules, found):
        """The rings even all debts, go between the right houses, and are no more than they may be."""
        before = {pair: found[pair] for pair in found}
        told = rings(rules, found)
        self.assertEqual((found, list(found)), (before, list(before)))
        self.assertIs(type(told), list)
        pairs = open_pairs(rules, found)
        left = dict(found)
        for ring in told:
            self.assertIs(type(ring), tuple)
            houses, load = ring
            self.assertIs(type(houses), tuple)
            self.assertGreaterEqual(len(houses), 3)
            self.assertEqual(len(set(houses)), len(houses))
            for one, other in zip(houses, houses[1:] + houses[:1]):
                pair = min(one, other), max(one, other)
                self.assertIn(pair, pairs)
                left[pair] = left[pair] - load * (1 if one < other else -1)
        for load in left.values():
            self.assertIn(load, rules)
        self.assertLessEqual(len(told), most_rings(pairs))
        self.assertEqual(after_rings(rules, found, told), {})
        self.assertEqual(rings(rules, dict(reversed(list(found.items())))), told)
        return told

    def test_rings(self):
        self.assertEqual(len(self.check(halves(), debts())), 1)
        self.assertEqual(rings(debts=debts(), exchanges=halves()), rings(halves(), debts()))
        # All the same that half the pairs stand the other way round.
        turned = {("ann", "bo"): Load(half=1), ("bo", "cy"): Load(half=1), ("ann", "cy"): Load(half=-1)}
        self.assertEqual(len(self.check(Exchanges(), turned)), 1)
        self.check(Exchanges(), {pair: load * BIG for pair, load in turned.items()})

    def test_nothing_to_do(self):
        self.assertEqual(rings(halves(), {}), [])
        self.assertEqual(self.check(halves(), {("ann", "bo"): NOTHING}), [])
        self.assertEqual(self.check(halves(), {("ann", "bo"): Load(half=2, whole=-1), ("bo", "cy"): NOTHING}), [])

    def test_only_between_houses_with_debts(self):
        """A pair whose debt is equivalent to nothing is in no ring, though it would make for shorter ones."""
        four = {("a", "b"): Load(x=1), ("b", "c"): Load(x=1), ("c", "d"): Load(x=1), ("a", "d"): Load(x=-1),
                ("a", "c"): NOTHING, ("b", "d"): Load(half=2, whole=-1)}
        told = self.check(halves(), four)
        self.assertEqual([len(houses) for houses, _ in told], [4])

    def test_several_connected_sets(self):
        found = {}
        for first in ("ab", "cd", "ef"):
            one, two, three = first, first + "a", first + "b"
            found |= {(one, two): Load(x=2), (two, three): Load(x=2), (one, three): Load(x=-2)}
        self.assertEqual(len(self.check(halves(), found)), 3)

    def test_multiples_that_are_nothing(self):
        """Two racks are as good as two wholes, one is not: even are only houses whose sum is so."""
        odd = Load(rack=1, whole=-1)
        found = {("a", "b"): odd, ("b", "c"): odd, ("a", "c"): odd}
        self.assertEqual(len(self.check(halves(), found)), 1)
        self.assertEqual(net_loads(halves(), found), {"a": NOTHING, "b": NOTHING, "c": NOTHING})
        with self.assertRaises(Uneven) as caught:
            rings(Exchanges(), found)
        self.assertEqual(caught.exception.house, "a")

    def test_uneven(self):
        for found, house in [({("ann", "bo"): Load(half=1)}, "ann"),
                             ({("a", "b"): Load(half=2), ("b", "c"): Load(whole=1), ("c", "d"): Load(rack=1)}, "a"),
                             ({**debts(), ("di", "zoe"): Load(cart=1)}, "di"),
                             ({**debts(), ("a", "zoe"): Load(half=2, whole=-1), ("bo", "zoe"): Load(half=1)}, "bo"),
                             ({("y", "z"): Load(k=-1), ("x", "y"): Load(half=2, whole=-1)}, "y")]:
            before = dict(found)
            for wrong in (found, dict(reversed(list(found.items())))):
                with self.assertRaises(Uneven) as caught:
                    rings(halves(), wrong)
                self.assertIs(type(caught.exception), Uneven)
                self.assertEqual((caught.exception.house, found), (house, before))

    def test_even_exactly_if_there_are_rings(self):
        even = 0
        for seed in range(150):
            chosen = random.Random(seed)
            rules = RULES[seed % len(RULES)]
            found = even_debts(chosen, rules, HOUSES[:chosen.randint(3, 6)], chosen.randint(1, 5))
            if chosen.random() < 0.3 and found:
                pair = chosen.choice(list(found))
                found[pair] = found[pair] + Load(half=chosen.randint(0, 1), rack=chosen.randint(0, 1))
            wrong = [house for house, load in net_loads(rules, found).items() if load]
            if wrong:
                with self.assertRaises(Uneven) as caught:
                    rings(rules, found)
                self.assertEqual(caught.exception.house, wrong[0])
            else:
                even += 1
                self.check(rules, found)
        self.assertGreater(even, 60)
        self.assertLess(even, 140)

    def test_many_houses(self):
        chosen = random.Random(7)
        houses = ["h" + a + b for a in "abcdefgh" for b in "abcdefgh"]
        for many in (1, 3, 40):
            self.check(halves(), even_debts(chosen, halves(), houses, many))


class AfterTest(unittest.TestCase):

    def test_after_rings(self):
        rules = halves()
        ring = ("ann", "bo", "cy"), Load(half=1)
        self.assertEqual(after_rings(rules, debts(), [ring]), {})
        self.assertEqual(after_rings(rings=(ring,), debts=debts(), exchanges=rules), {})
        found = after_rings(rules, debts(), [ring, (("cy", "bo", "ann"), Load(half=5, cart=1))])
        self.assertEqual(found, {("ann", "bo"): Load(half=1, whole=2, cart=1),
                                 ("ann", "cy"): rules.plain(Load(half=-5, cart=-1)),
                                 ("bo", "cy"): Load(half=1, whole=2, cart=1)})
        self.assertEqual(list(found), [("ann", "bo"), ("ann", "cy"), ("bo", "cy")])

    def test_without_rings(self):
        rules = halves()
        found = {("bo", "cy"): Load(half=5), ("b", "c"): Load(half=2, whole=-1), ("ann", "zoe"): NOTHING,
                 ("ann", "bo"): Load(rack=3)}
        for none in ([], ()):
            self.assertEqual(after_rings(rules, found, none),
                             {("ann", "bo"): rules.plain(Load(rack=3)), ("bo", "cy"): Load(half=1, whole=2)})
            self.assertEqual(list(after_rings(rules, found, none)), [("ann", "bo"), ("bo", "cy")])
        self.assertEqual(after_rings(rules, {}, []), {})

    def test_rings_of_other_houses(self):
        found = after_rings(Exchanges(), {("a", "b"): Load(x=1)}, [(("c", "b", "a", "dd"), Load(x=2, y=-1))])
        self.assertEqual(found, {("a", "b"): Load(x=3, y=-1), ("a", "dd"): Load(x=-2, y=1), ("b", "c"): Load(x=2, y=-1),
                                 ("c", "dd"): Load(x=2, y=-1)})
        self.assertEqual(list(found), sorted(found))
        self.assertEqual(after_rings(Exchanges(), {}, [(("a", "b", "c"), NOTHING)]), {})

    def test_nets_stay(self):
        """No ring changes what a house has to get, and nothing that is passed is changed."""
        for seed in range(30):
            chosen = random.Random(seed)
            rules = RULES[seed % len(RULES)]
            found = even_debts(chosen, rules, HOUSES, 3)
            found[("ann", "bo")] = Load(half=seed)
            around = [(tuple(chosen.sample(HOUSES, chosen.randint(3, 6))), Load.of({"half": chosen.randint(-3, 3)}))
                      for _ in range(3)]
            before = dict(found), list(around)
            after = after_rings(rules, found, around)
            self.assertEqual((found, around), before)
            nets = net_loads(rules, found)
            for house, load in net_loads(rules, after).items():
                self.assertEqual(nets.get(house, NOTHING), load)
            for load in after.values():
                self.assertTrue(load)
                self.assertEqual(rules.plain(load), load)


if __name__ == "__main__":
    unittest.main()
