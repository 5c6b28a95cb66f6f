"""Exchange rules, and plain forms, steps, orders and structures under them: points 20 and 21."""

import itertools
import math
import random
import unittest

from crateround.errors import InvalidPair, TooMany
from crateround.exchanges import Exchanges
from crateround.loads import Load
from helpers import NOTHING, any_values, check_dict, halves, load_pairs, random_rules, samples, small_sums

KINDS = ["a", "b", "c", "d", "e", "f", "g"]


class MakingTest(unittest.TestCase):

    def test_pairs_and_kinds(self):
        pairs = ((Load(tray=2), Load(box=1)), (NOTHING, NOTHING), (Load(cart=1, box=1), Load(cart=1, box=1)))
        rules = Exchanges(*pairs)
        self.assertEqual(rules.pairs, pairs)
        self.assertEqual(rules.kinds, ("box", "cart", "tray"))
        self.assertEqual((Exchanges().pairs, Exchanges().kinds), ((), ()))
        self.assertEqual(Exchanges((NOTHING, NOTHING)).kinds, ())

    def test_wrong_pairs(self):
        good = (Load(box=2), Load(tray=1))
        wrong = [*any_values(), [Load(box=2), Load(tray=1)], (Load(box=1),), (Load(box=1),) * 3,
                 (Load(box=-1), NOTHING), (NOTHING, Load(box=1, tray=-1)), (Load(box=10 ** 6 + 1), NOTHING),
                 (NOTHING, Load(box=1, tray=10 ** 79)), (Load(box=1), {"box": 1}), ("box 1", "tray 1"),
                 (Load(box=1), None), Load(box=1), Exchanges(good)]
        for value in wrong:
            for before in range(3):
                with self.subTest(value=value), self.assertRaises(InvalidPair) as caught:
                    Exchanges(*[good] * before, value, None)
                self.assertEqual(caught.exception.index, before)

    def test_counts_up_to_a_million(self):
        rules = Exchanges((Load(a=10 ** 6), Load(b=10 ** 6)))
        self.assertEqual(rules.steps, {"a": 10 ** 6})

    def test_too_many_pairs_and_kinds(self):
        pair = (Load(a=1), NOTHING)
        seven = [(Load.of({kind: 1}), NOTHING) for kind in KINDS]
        self.assertEqual(len(Exchanges(*[pair] * 8).pairs), 8)
        self.assertEqual(len(Exchanges(*seven[:6], *seven[:2]).kinds), 6)
        for pairs, most in [([pair] * 9, 8), ([pair] * 100, 8), (seven, 6), ([*seven, pair], 6),
                            ([*seven, pair, pair], 8), ([(Load.of(dict.fromkeys(KINDS, 1)), NOTHING)], 6),
                            ([(Load.of(dict.fromkeys(KINDS, 1)),) * 2], 6)]:
            with self.assertRaises(TooMany) as caught:
                Exchanges(*pairs)
            self.assertEqual(caught.exception.most, most)

    def test_a_wrong_pair_comes_ahead_of_too_many(self):
        with self.assertRaises(InvalidPair) as caught:
            Exchanges(*[(Load(a=1), NOTHING)] * 9, None)
        self.assertEqual(caught.exception.index, 9)


class PlainTest(unittest.TestCase):

    def test_known_forms(self):
        rules = halves()
        self.assertEqual(rules.steps, {"half": 2, "rack": 2})
        self.assertEqual(rules.basis(), [Load(half=2, whole=-1), Load(rack=2, whole=-2)])
        self.assertEqual(rules.plain(Load(half=5)), Load(half=1, whole=2))
        self.assertEqual(rules.plain(Load(half=-1, cart=-3)), Load(half=1, whole=-1, cart=-3))
        rules = Exchanges((Load(a=4), NOTHING), (NOTHING, Load(a=6, b=3)))
        self.assertEqual(rules.steps, {"a": 2, "b": 6})
        self.assertEqual(rules.basis(), [Load(a=2, b=3), Load(b=6)])
        self.assertEqual(Exchanges((Load(b=2), Load(a=3))).steps, {"a": 3})
        # The step of the later kind counts loads without the earlier one.
        rules = Exchanges((Load(a=2), Load(b=3)), (Load(a=3), Load(b=5)))
        self.assertEqual(rules.basis(), [Load(a=1), Load(b=1)])

    def test_without_pairs_or_kinds(self):
        for rules in (Exchanges(), Exchanges((NOTHING, NOTHING)), Exchanges((Load(a=2), Load(a=2)))):
            self.assertEqual((rules.steps, rules.basis()), ({}, []))
            self.assertEqual(rules.plain(Load(a=-7, b=2)), Load(a=-7, b=2))
            self.assertTrue(rules.is_equivalent(Load(a=1), Load(a=1)))
            self.assertFalse(rules.is_equivalent(Load(a=1), Load(a=2)))

    def test_steps_and_basis_are_the_least(self):
        """Compared with all sums of small combinations."""
        for seed, (many, kinds, most) in enumerate([(1, "a", 3), (2, "a", 6), (2, "ab", 3), (3, "ab", 3),
                                                    (3, "ab", 2), (2, "abc", 3), (3, "abc", 2)] * 4):
            rules = random_rules(random.Random(seed), many, kinds, most, 0.7)
            sums = small_sums(rules, 12 if many < 3 else 7)
            for place, kind in enumerate(rules.kinds):
                counts = [load[kind] for load in sums
                          if load[kind] > 0 and not any(load[other] for other in rules.kinds[:place])]
                with self.subTest(seed=seed, kind=kind):
                    self.assertEqual(rules.steps.get(kind), min(counts, default=None))
            self.check_basis(rules, sums)

    def check_basis(self, rules, sums):
        basis = rules.basis()
        self.assertEqual([load.kinds[0] for load in basis], list(rules.steps))
        for load in basis:
            self.assertEqual(load[load.kinds[0]], rules.steps[load.kinds[0]])
            self.assertTrue(any(load == other for other in sums))
            for kind in load.kinds[1:]:
                if kind in rules.steps:
                    self.assertTrue(0 <= load[kind] < rules.steps[kind])

    def test_plain_forms_of_all_samples(self):
        for number, rules in enumerate(samples()):
            for load in rules.basis():
                self.assertTrue(rules.is_equivalent(load, NOTHING))
            for left, right in rules.pairs:
                self.assertEqual(rules.plain(left), rules.plain(right))
            for one, other in load_pairs(rules, number):
                plain = rules.plain(one)
                for kind, step in rules.steps.items():
                    self.assertTrue(0 <= plain[kind] < step)
                self.assertEqual(rules.plain(plain), plain)
                self.assertIsNotNone(rules.combination(one, plain))
                self.assertEqual(rules(one), plain)
                same = rules.combination(one, other) is not None
                self.assertIs(plain == rules.plain(other), same)
                self.assertIs(rules.is_equivalent(one, other), same)
                self.assertIs((one - other) in rules, same)

    def test_counts_of_a_million_in_eight_pairs_and_six_kinds(self):
        rules = samples()[-5]
        self.assertEqual((len(rules.pairs), len(rules.kinds)), (8, 6))
        self.assertGreater(max(max(load.counts.values()) for load in itertools.chain(*rules.pairs)), 9 * 10 ** 5)
        self.assertEqual(list(rules.steps), list(rules.kinds))

    def test_contains_any_value(self):
        rules = halves()
        self.assertIs(Load() in rules, True)
        self.assertIs(Load(half=2, whole=-1) in rules, True)
        self.assertIs(Load(half=-4, rack=2) in rules, True)
        self.assertIs(Load(half=1) in rules, False)
        self.assertIs(Load(half=2, whole=-1, cart=1) in rules, False)
        for value in [*any_values(), {}, "-", halves()]:
            self.assertIs(value in rules, False)

    def test_kinds_in_no_pair(self):
        rules = halves()
        self.assertTrue(rules.is_equivalent(Load(half=2, cart=1), Load(whole=1, cart=1)))
        self.assertFalse(rules.is_equivalent(Load(half=2, cart=1), Load(whole=1, cart=2)))


class OrderTest(unittest.TestCase):

    def test_known_orders(self):
        rules = halves()
        self.assertEqual(rules.order(NOTHING), 1)
        self.assertEqual(rules.order(Load(half=2, whole=-1)), 1)
        self.assertEqual(rules.order(Load(whole=1, rack=-1)), 2)
        self.assertEqual(rules.order(Load(half=1, rack=-1)), None)
        self.assertEqual(rules.order(Load(half=2, rack=-1)), 2)
        self.assertEqual(rules.order(Load(half=4, rack=-2)), 1)
        self.assertEqual(rules.order(Load(cart=1)), None)
        self.assertEqual(Exchanges().order(NOTHING), 1)
        self.assertEqual(Exchanges().order(Load(a=1)), None)
        clocks = Exchanges((Load(a=12), NOTHING), (Load(b=18), NOTHING))
        self.assertEqual([clocks.order(Load(a=a, b=b)) for a, b in ((8, 0), (0, 15), (8, 15), (1, 1))],
                         [3, 6, 6, 36])

    def test_many_digits(self):
        primes = (999983, 999979, 999961, 999959, 999953, 999931)
        rules = Exchanges(*[(Load.of({kind: prime}), NOTHING) for kind, prime in zip("abcdef", primes)])
        self.assertEqual(rules.order(Load(a=1, b=1, c=1, d=1, e=1, f=1)), math.prod(primes))
        self.assertEqual(rules.order(Load(a=10 ** 79, f=-(10 ** 79))), primes[0] * primes[-1])

    def test_orders_are_the_least(self):
        for number, rules in enumerate(samples()):
            for one, other in load_pairs(rules, number):
                order = rules.order(one - other)
                if order is None:
                    for times in (1, 2, 6, rules.class_count() or 5):
                        self.assertFalse(times * (one - other) in rules)
                    continue
                self.assertTrue(order * (one - other) in rules)
                for times in range(1, min(order, 30)):
                    self.assertFalse(times * (one - other) in rules)
                for prime in (2, 3, 5, 7, 11, 13):
                    if order % prime == 0:
                        self.assertFalse(order // prime * (one - other) in rules)


class StructureTest(unittest.TestCase):

    def test_reduced(self):
        for rules in samples():
            reduced = rules.reduced()
            self.assertIs(type(reduced), Exchanges)
            self.assertEqual(reduced.pairs, tuple((load.positive, load.negative) for load in rules.basis()))
            kinds = {kind for load in rules.basis() for kind in load.kinds}
            self.assertEqual(reduced.kinds, tuple(sorted(kinds)))
            self.assertEqual((reduced.steps, reduced.basis()), (rules.steps, rules.basis()))
            self.assertEqual(reduced.reduced().pairs, reduced.pairs)
        self.assertEqual(halves().reduced().pairs, ((Load(half=2), Load(whole=1)), (Load(rack=2), Load(whole=2))))
        self.assertEqual(Exchanges((Load(a=1), Load(a=1))).reduced().kinds, ())

    def test_known_structures(self):
        for rules, structure, count in [
                (halves(), ((2,), 1), None),
                (Exchanges(), ((), 0), 1),
                (Exchanges((NOTHING, NOTHING)), ((), 0), 1),
                (Exchanges((Load(a=1), Load(a=1))), ((), 1), None),
                (Exchanges((Load(a=1), NOTHING)), ((), 0), 1),
                (Exchanges((Load(a=1), Load(b=1))), ((), 1), None),
                (Exchanges((Load(a=2), NOTHING), (Load(b=3), NOTHING)), ((6,), 0), 6),
                (Exchanges((Load(a=4), NOTHING), (Load(b=6), NOTHING)), ((2, 12), 0), 24),
                (Exchanges((Load(a=4, b=2), NOTHING), (Load(b=3), NOTHING)), ((12,), 0), 12),
                (Exchanges((Load(a=2), NOTHING), (Load(b=2), NOTHING), (Load(c=2), NOTHING)), ((2, 2, 2), 0), 8),
                (Exchanges((Load(a=6), NOTHING), (Load(b=10), NOTHING), (Load(c=15), NOTHING)), ((30, 30), 0), 900),
                (Exchanges((Load(a=2, b=4, c=4), NOTHING), (Load(b=6, c=12), Load(a=6)),
                           (Load(a=10), Load(b=4, c=16))), ((2, 6, 12), 0), 144),
                (Exchanges((Load(a=6, b=6), NOTHING), (Load(c=4), Load(b=4))), ((2, 12), 1), None)]:
            self.assertEqual(rules.structure(), structure)
            self.assertEqual(rules.class_count(), count)

    def test_structures_tell_the_orders_of_all_classes(self):
        seen = 0
        for seed in range(60):
            rules = random_rules(random.Random(seed), 4, "abc"[:1 + seed % 3], 6, 0.6)
            factors, free = rules.structure()
            self.check_form(rules, factors, free)
            if free or rules.class_count() > 400:
                continue
            seen += 1
            classes = itertools.product(*[range(step) for step in rules.steps.values()])
            loads = [Load.of(dict(zip(rules.steps, counts))) for counts in classes]
            self.assertEqual(len(loads), rules.class_count())
            orders = [rules.order(load) for load in loads]
            for times in range(1, 40):
                self.assertEqual(sum(times % order == 0 for order in orders),
                                 math.prod(math.gcd(times, factor) for factor in factors))
        self.assertGreater(seen, 20)

    def test_structures_of_all_samples(self):
        for rules in samples():
            factors, free = rules.structure()
            self.check_form(rules, factors, free)
            self.assertEqual(free, len(rules.kinds) - len(rules.steps))
            if not free:
                self.assertEqual(rules.class_count(), math.prod(rules.steps.values()))

    def check_form(self, rules, factors, free):
        self.assertIs(type(factors), tuple)
        self.assertIs(type(free), int)
        self.assertTrue(all(factor > 1 for factor in factors))
        self.assertTrue(all(later % factor == 0 for factor, later in zip(factors, factors[1:])))
        self.assertEqual(rules.class_count(), None if free else math.prod(factors))


class NewResultsTest(unittest.TestCase):

    def test_results_are_new_and_ascending(self):
        rules = Exchanges((Load(tray=2), NOTHING), (Load(box=3), Load(cart=5)), (Load(cart=7), NOTHING))
        self.assertEqual(list(rules.steps), ["box", "cart", "tray"])
        check_dict(self, rules.steps)
        rules.steps.clear()
        rules.basis().clear()
        rules.basis()[0].counts.clear()
        self.assertEqual(len(rules.steps), 3)
        self.assertEqual(len(rules.basis()), 3)
        self.assertIs(type(rules.basis()), list)
        self.assertIs(type(rules.pairs), tuple)
        self.assertIs(type(rules.kinds), tuple)


if __name__ == "__main__":
    unittest.main()
