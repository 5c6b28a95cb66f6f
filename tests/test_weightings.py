"""Combinations and weightings: point 22."""

import itertools
import random
import unittest

from crateround.errors import InvalidWeighting
from crateround.exchanges import Exchanges
from crateround.loads import Load
from helpers import (NOTHING, any_values, check_integers, check_weighting_form, difference_sum, halves, is_valid,
                     load_pairs, random_rules, samples, weighs_nothing)


class CombinationTest(unittest.TestCase):

    def test_known_combinations(self):
        rules = halves()
        self.assertEqual(rules.combination(Load(half=4), Load(rack=2)), (2, 1))
        self.assertEqual(rules.combination(Load(rack=2), Load(half=4)), (-2, -1))
        self.assertEqual(rules.combination(Load(cart=3), Load(cart=3)), (0, 0))
        self.assertIsNone(rules.combination(Load(whole=1), Load(rack=1)))
        self.assertIsNone(rules.combination(Load(cart=1), NOTHING))
        self.assertEqual(Exchanges().combination(Load(a=1), Load(a=1)), ())
        self.assertIsNone(Exchanges().combination(Load(a=1), NOTHING))

    def test_exactly_one_of_both(self):
        for number, rules in enumerate(samples()):
            for one, other in load_pairs(rules, number):
                combination, weighting = rules.combination(one, other), rules.weighting(one, other)
                self.assertEqual([combination is None, weighting is None].count(True), 1)
                if combination is not None:
                    check_integers(self, combination, len(rules.pairs))
                    self.assertEqual(difference_sum(rules, combination), one - other)
                    self.assertIs(rules.is_combination(one, other, combination), True)
                else:
                    check_weighting_form(self, weighting)
                    self.assertTrue(is_valid(rules, weighting))
                    self.assertFalse(weighs_nothing(one - other, weighting))
                    self.assertIs(rules.is_weighting(one, other, weighting), True)

    def test_is_combination(self):
        rules = Exchanges((Load(a=2), Load(b=1)), (Load(a=4), Load(b=2)), (Load(c=1), Load(c=1)))
        one, other = Load(a=6), Load(b=3)
        for value in ((3, 0, 0), (1, 1, 7), (-1, 2, 0), (5, -1, -(10 ** 79)), (10 ** 70 + 3, -(10 ** 70) // 2, 1)):
            self.assertIs(rules.is_combination(one, other, value), True)
        for value in [*any_values(), (3, 0), (3, 0, 0, 0), [3, 0, 0], (2, 0, 0), (-3, 0, 0), (3, 0, None),
                      (3, 0, True), (3, False, 0), (True, True, 7), ("3", 0, 0), (3, 0, (0,)), {0: 3, 1: 0, 2: 0},
                      Load(a=3), rules]:
            with self.subTest(value=value):
                self.assertIs(rules.is_combination(one, other, value), False)
        self.assertIs(rules.is_combination(one + Load(d=1), other, (3, 0, 0)), False)
        self.assertIs(rules.is_combination(one + Load(d=1), other + Load(d=1), (3, 0, 0)), True)
        self.assertIs(Exchanges().is_combination(NOTHING, NOTHING, ()), True)
        self.assertIs(Exchanges().is_combination(NOTHING, NOTHING, []), False)


class WeightingTest(unittest.TestCase):

    def test_kinds_in_no_pair(self):
        weights, modulus = halves().weighting(Load(half=2, cart=4), Load(whole=1, cart=5))
        self.assertNotEqual(weights["cart"] % modulus if modulus else weights["cart"], 0)

    def test_is_weighting(self):
        rules = halves()
        one, other = Load(whole=1), Load(rack=1)
        for value in [({"rack": 1}, 2), ({"rack": 3, "half": 0}, 2), ({"half": 2, "whole": 4, "rack": 1}, 6),
                      ({"rack": -1, "other": 10 ** 79}, 2), ({"rack": 5 * 10 ** 78}, 10 ** 79),
                      ({"half": 1, "whole": 2, "rack": 5}, 6)]:
            with self.subTest(value=value):
                self.assertIs(rules.is_weighting(one, other, value), True)
        for value in [*any_values(), ({"rack": 1}, 0), ({"rack": 1}, 3), ({"rack": 1}, 1), ({"rack": 1}, -2),
                      ({"rack": 1}, True), ({"rack": 1}, False), ({"rack": 1}, None), ({"rack": 1}, "2"), ({}, 0),
                      ({}, 2), [{"rack": 1}, 2], ({"rack": 1},), ({"rack": 1}, 2, 2), ({"rack": True}, 2),
                      ({"rack": None}, 2), ({"rack": 1, "Rack": 1}, 2), ({"rack": 1, 3: 1}, 2), ({"rack": 2}, 2),
                      ((("rack", 1),), 2), (["rack"], 2), ({"half": 1, "whole": 2, "rack": 2}, 0),
                      (Load(rack=1), 2), ({"rack": 1, "": 0}, 2), ({"rack": 1, "ninecharsx": 0}, 2)]:
            with self.subTest(value=value):
                self.assertIs(rules.is_weighting(one, other, value), False)
        exact = ({"half": 1, "whole": 2, "rack": 2}, 0)
        self.assertIs(rules.is_weighting(Load(half=1), Load(whole=1), exact), True)
        self.assertIs(rules.is_weighting(Load(half=1), Load(whole=1), ({"half": 1, "whole": 1}, 0)), False)
        self.assertIs(rules.is_weighting(Load(half=2), Load(whole=1), ({"rack": 1}, 2)), False)
        self.assertIs(rules.is_weighting(Load(cart=3), Load(cart=1), ({"cart": 1}, 3)), True)
        self.assertIs(rules.is_weighting(Load(cart=3), Load(cart=1), ({"cart": 1}, 2)), False)

    def test_weightings_of_all_samples(self):
        for number, rules in enumerate(samples()):
            factors, free = rules.structure()
            found = rules.weightings()
            self.assertIs(type(found), list)
            self.assertEqual(len(found), len(factors) + free)
            for weighting in found:
                check_weighting_form(self, weighting)
                self.assertTrue(is_valid(rules, weighting))
                self.assertTrue(set(weighting[0]) <= set(rules.kinds))
            for one, other in load_pairs(rules, number):
                inner = Load.of({kind: (one - other)[kind] for kind in rules.kinds})
                separated = not all(weighs_nothing(inner, weighting) for weighting in found)
                self.assertIs(separated, rules.combination(inner, NOTHING) is None)

    def test_weightings_separate_all_small_loads(self):
        chosen = random.Random(22)
        many = [random_rules(chosen, chosen.randint(1, 3), "ab", 6, 0.8) for _ in range(60)]
        for rules in (halves(), Exchanges((Load(a=4), Load(b=2)), (Load(b=6), NOTHING)),
                      Exchanges((Load(a=2, b=1), Load(b=3)), (Load(c=3), Load(a=3))),
                      Exchanges((Load(a=4, b=2), NOTHING), (Load(b=3), NOTHING)),
                      Exchanges((Load(a=4), NOTHING), (Load(b=6), NOTHING)),
                      Exchanges((Load(a=10), NOTHING), (Load(b=15), NOTHING)),
                      Exchanges((Load(a=6), NOTHING), (Load(b=10), NOTHING), (Load(c=15), NOTHING)), *many):
            found = rules.weightings()
            most = 13 if len(rules.kinds) < 3 else 5
            for counts in itertools.product(range(1 - most, most), repeat=len(rules.kinds)):
                load = Load.of(dict(zip(rules.kinds, counts)))
                self.assertIs(load in rules, all(weighs_nothing(load, weighting) for weighting in found))

    def test_no_weightings(self):
        self.assertEqual(Exchanges().weightings(), [])
        self.assertEqual(Exchanges((Load(a=1), NOTHING)).weightings(), [])
        self.assertEqual(len(Exchanges((Load(a=1), Load(a=1))).weightings()), 1)


class WeighedTest(unittest.TestCase):

    def test_equivalent_to_nothing_exactly_if_it_weighs_nothing(self):
        for weights, modulus in [({"a": 1}, 0), ({"a": 0}, 0), ({"a": 0}, 5), ({"a": 1, "b": 2}, 0),
                                 ({"b": 6, "a": 4}, 0),
                                 ({"a": 1, "b": -2}, 7), ({"a": 4, "b": 6}, 10), ({"a": 2, "b": 3, "c": -5}, 0),
                                 ({"a": 2, "b": 0, "c": -5}, 4), ({"a": 6, "b": 4}, 2), ({"c": 3, "a": 3}, 6)]:
            rules = Exchanges.weighed(weights, modulus)
            self.assertIs(type(rules), Exchanges)
            self.assertEqual(rules.pairs, rules.reduced().pairs)
            for counts in itertools.product(range(-6, 7), repeat=len(weights)):
                load = Load.of(dict(zip(sorted(weights), counts)))
                with self.subTest(weights=weights, modulus=modulus, load=load.text()):
                    self.assertIs(load in rules, weighs_nothing(load, (weights, modulus)))
            self.assertFalse(Load(other=1) in rules)
            self.assertEqual(rules.order(Load(other=1)), None)

    def test_known_rules(self):
        self.assertEqual(Exchanges.weighed({"half": 1, "whole": 2}, 0).pairs, ((Load(half=2), Load(whole=1)),))
        self.assertEqual(Exchanges.weighed({"a": 1}, 0).pairs, ())
        self.assertEqual(Exchanges.weighed({"a": 0}, 0).pairs, ((Load(a=1), NOTHING),))
        self.assertEqual(Exchanges.weighed({"a": 4}, 6).pairs, ((Load(a=3), NOTHING),))
        self.assertEqual(Exchanges.weighed(weights={"a": 1, "b": 1}, modulus=10 ** 6).class_count(), 10 ** 6)

    def test_large_weights(self):
        weights = dict(zip("fedcba", (999999, -999999, 999998, 1, 0, -777777)))
        for modulus in (0, 2, 10 ** 6):
            rules = Exchanges.weighed(weights, modulus)
            self.assertTrue(all(weighs_nothing(load, (weights, modulus)) for load in rules.basis()))
            self.assertEqual(rules.class_count(), modulus or None)
        self.assertEqual(list(weights), list("fedcba"))

    def test_wrong_weights(self):
        wrong = [value for value in any_values() if not isinstance(value, dict)]
        wrong += [{}, {"a": 10 ** 6}, {"a": -(10 ** 6)}, {"a": 10 ** 79}, {"a": True}, {"a": None}, {"a": "1"}, {1: 1},
                  {"A": 1}, {"": 1}, {"a": 1, "b!": 1}, dict.fromkeys("abcdefg", 1), Load(a=1), [("a", 1)]]
        for value in wrong:
            for modulus in (0, 5, None, 1):
                with self.subTest(value=value), self.assertRaises(InvalidWeighting) as caught:
                    Exchanges.weighed(value, modulus)
                self.assertIs(caught.exception.value, value)

    def test_wrong_moduli(self):
        for value in [None, True, False, 1, -1, -2, 10 ** 6 + 1, 10 ** 79, "2", b"", (), (2,), [2], {}, Load()]:
            with self.subTest(value=value), self.assertRaises(InvalidWeighting) as caught:
                Exchanges.weighed({"a": 1}, value)
            self.assertIs(caught.exception.value, value)


if __name__ == "__main__":
    unittest.main()
