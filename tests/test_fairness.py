"""Fair rules and covering: point 24."""

import random
import unittest

from crateround.exchanges import Exchanges
from crateround.loads import Load
from helpers import (NOTHING, any_values, check_dict, check_integers, difference_sum, halves, is_valid, load_pairs,
                     random_rules, samples, weight)


def many_rules():
    chosen = random.Random(24)
    small = [random_rules(chosen, chosen.randint(1, 5), "abcdef"[:chosen.randint(1, 6)], 3, chosen.choice((0.3, 0.6)))
             for _ in range(300)]
    # Rules that are fair by the way they are made.
    fair = []
    for _ in range(20):
        weights = {kind: chosen.randint(1, 10 ** 6) for kind in "abcdef"}
        basis = Exchanges.weighed(weights, 0).reduced().pairs
        fair.append(Exchanges(*[pair for pair in basis if chosen.random() < 0.7][:8]))
    return [*samples(), *small, *fair]


class FairnessTest(unittest.TestCase):

    def test_known_rules(self):
        self.assertEqual(halves().fairness(), ("fair", {"half": 1, "rack": 2, "whole": 2}))
        self.assertEqual(Exchanges().fairness(), ("fair", {}))
        self.assertEqual(Exchanges((NOTHING, NOTHING)).fairness(), ("fair", {}))
        self.assertEqual(Exchanges((Load(a=1), Load(a=1))).fairness()[0], "fair")
        for rules in (Exchanges((Load(a=1), NOTHING)), Exchanges((NOTHING, Load(a=1))),
                      Exchanges((Load(a=2), Load(b=1)), (Load(b=1), Load(a=3))),
                      Exchanges((Load(a=1), Load(a=1, b=1))), Exchanges((Load(a=1), Load(b=1)), (Load(b=1), NOTHING))):
            self.assertEqual(rules.fairness()[0], "gift")

    def test_each_is_shown(self):
        words = {"fair": 0, "gift": 0}
        for rules in many_rules():
            found = rules.fairness()
            self.assertIs(type(found), tuple)
            word, shown = found
            words[word] += 1
            self.assertIs(rules.is_fairness(found), True)
            if word == "fair":
                check_dict(self, shown)
                self.assertEqual(tuple(shown), rules.kinds)
                self.assertTrue(all(entry >= 1 for entry in shown.values()))
                self.assertTrue(is_valid(rules, (shown, 0)))
            else:
                check_integers(self, shown, len(rules.pairs))
                gift = difference_sum(rules, shown)
                self.assertTrue(gift.counts and all(count > 0 for count in gift.counts.values()))
        self.assertGreater(min(words.values()), 20)

    def test_is_fairness(self):
        rules = halves()
        for value in [("fair", {"half": 1, "rack": 2, "whole": 2}), ("fair", {"whole": 14, "half": 7, "rack": 14}),
                      ("fair", {"half": 10 ** 78, "rack": 2 * 10 ** 78, "whole": 2 * 10 ** 78})]:
            self.assertIs(rules.is_fairness(value), True)
        good = {"half": 1, "rack": 2, "whole": 2}
        for value in [*any_values(), ["fair", good], ("fair", good, 1), ("fair",), good, ("gift", good), ("FAIR", good),
                      (b"fair", good), ("fair", {"half": 1, "rack": 2}), ("fair", {"half": 1, "rack": 2, "cart": 2}),
                      ("fair", {**good, "cart": 1}),
                      ("fair", {**good, "rack": 3}), ("fair", {"half": 0, "rack": 0, "whole": 0}),
                      ("fair", {"half": -1, "rack": -2, "whole": -2}), ("fair", {"half": True, "rack": 2, "whole": 2}),
                      ("fair", {"half": 1, "rack": "2", "whole": 2}), ("fair", {"half": 1, "rack": 2, 3: 2}),
                      ("fair", tuple(good.items())), ("fair", Load(half=1, rack=2, whole=2)), ("gift", (0, 0)),
                      ("gift", (1, 0)), ("gift", (-1, 0)), ("gift", ()), (good, "fair"), Load(), rules,
                      (Load(), good), (rules, good), ("fair", rules)]:
            with self.subTest(value=value):
                self.assertIs(rules.is_fairness(value), False)

    def test_is_fairness_of_gifts(self):
        rules = Exchanges((Load(a=2), Load(b=1)), (Load(b=1), Load(a=3)))
        for value in [("gift", (-1, -1)), ("gift", (-2, -2)), ("gift", (-(10 ** 79), -(10 ** 79)))]:
            self.assertIs(rules.is_fairness(value), True)
        for value in [("gift", (1, 1)), ("gift", (-1, 0)), ("gift", (0, 0)), ("gift", [-1, -1]), ["gift", (-1, -1)],
                      ("gift", (-1,)), ("gift", (-1, -1, 0)), ("gift", (-1, True)), ("gift", (-1, None)), ("gift", -1),
                      ("present", (-1, -1)), (None, (-1, -1)),
                      ("fair", (-1, -1)), ("fair", {"a": 1, "b": 2})]:
            with self.subTest(value=value):
                self.assertIs(rules.is_fairness(value), False)
        self.assertIs(Exchanges().is_fairness(("fair", {})), True)
        self.assertIs(Exchanges().is_fairness(("gift", ())), False)
        self.assertIs(Exchanges((Load(a=1), Load(a=1))).is_fairness(("fair", {})), False)


class CoveringTest(unittest.TestCase):

    def test_known_loads(self):
        rules = halves()
        for one, other, word in [(Load(half=3), Load(whole=1), "covers"), (Load(half=1), Load(whole=1), "less"),
                                 (Load(rack=1), Load(whole=1), "covers"), (Load(rack=1), Load(half=3), "less"),
                                 (Load(cart=1), NOTHING, "covers"), (NOTHING, Load(cart=1), "less"),
                                 (Load(half=9), Load(cart=1), "less"), (NOTHING, NOTHING, "covers"),
                                 (Load(half=2, cart=-1), Load(whole=1, cart=-1), "covers"),
                                 (Load(half=-1), Load(whole=-1), "covers"), (Load(half=-3), Load(whole=-1), "less")]:
            found = rules.covering(one, other)
            self.assertEqual(found[0], word)
            self.check(rules, one, other, found)
        found = Exchanges().covering(NOTHING, NOTHING)
        self.assertEqual((found[0], found[2]), ("covers", ()))
        self.assertEqual(Exchanges().covering(NOTHING, Load(a=1)), ("less", {"a": 1}))
        free = Exchanges((Load(a=1), NOTHING))
        self.assertEqual(free.covering(NOTHING, Load(a=10 ** 79))[0], "covers")

    def test_several_times_are_needed(self):
        # One rack is worth two wholes only together with another one.
        rules = Exchanges((Load(rack=2), Load(whole=4)))
        word, number, combination = rules.covering(Load(rack=1), Load(whole=2))
        self.assertEqual((word, number % 2), ("covers", 0))
        self.assertTrue(rules.is_covering(Load(rack=1), Load(whole=2), (word, number, combination)))
        self.assertEqual(rules.covering(Load(rack=1), Load(whole=3))[0], "less")

    def test_each_is_shown(self):
        words = {"covers": 0, "less": 0}
        for number, rules in enumerate(many_rules()):
            pairs = load_pairs(rules, number)[:6]
            for one, other in [*pairs, *[(other, one) for one, other in pairs]]:
                for more in (one, one.positive + other.positive):
                    found = rules.covering(more, other)
                    words[found[0]] += 1
                    self.check(rules, more, other, found)
        self.assertGreater(min(words.values()), 100)

    def check(self, rules, one, other, found):
        self.assertIs(type(found), tuple)
        self.assertIs(rules.is_covering(one, other, found), True)
        if found[0] == "less":
            _, weights = found
            check_dict(self, weights)
            self.assertEqual(set(weights), {*rules.kinds, *one.kinds, *other.kinds})
            self.assertTrue(all(entry >= 0 for entry in weights.values()))
            self.assertTrue(is_valid(rules, (weights, 0)))
            self.assertLess(weight(one, weights), weight(other, weights))
        else:
            _, times, combination = found
            self.assertTrue(type(times) is int and times >= 1)
            check_integers(self, combination, len(rules.pairs))
            rest = (one - other) * times + difference_sum(rules, combination)
            self.assertTrue(all(count > 0 for count in rest.counts.values()))

    def test_is_covering_less(self):
        rules = halves()
        one, other = Load(half=1, cart=2), Load(whole=1)
        good = {"cart": 0, "half": 1, "rack": 2, "whole": 2}
        many = {"half": 10 ** 78, "whole": 2 * 10 ** 78, "rack": 2 * 10 ** 78}
        for value in [("less", good), ("less", {**good, **many})]:
            self.assertIs(rules.is_covering(one, other, value), True)
        for value in [*any_values(), ["less", good], ("less", good, 1), ("less",), (good,), ("covers", good),
                      ("less", {**good, "cart": 1}), ("less", {**good, "cart": -1}), ("less", {**good, "box": 0}),
                      ("less", {"half": 1, "rack": 2, "whole": 2}), ("less", dict.fromkeys(good, 0)),
                      ("less", {**good, "rack": 3}), ("less", {**good, "cart": False}),
                      ("less", {**good, "cart": None}), ("less", {**good, 1: 0}),
                      ("less", list(good)), ("less", 1, (1, 0)), Load(half=1), rules,
                      (rules, good), ("less", rules)]:
            with self.subTest(value=value):
                self.assertIs(rules.is_covering(one, other, value), False)
        self.assertIs(rules.is_covering(other, one, ("less", good)), False)

    def test_is_covering_covers(self):
        rules = halves()
        one, other = Load(rack=1), Load(whole=1)
        for value in [("covers", 2, (0, 1)), ("covers", 4, (0, 2)), ("covers", 2 * 10 ** 78, (0, 10 ** 78))]:
            self.assertIs(rules.is_covering(one, other, value), True)
        for value in [("covers", 1, (0, 0)), ("covers", 1, (0, 1)), ("covers", 0, (0, 0)), ("covers", -2, (0, 1)),
                      ("covers", True, (0, 1)), ("covers", 2, [0, 1]), ["covers", 2, (0, 1)], ("covers", 2, (0, 1, 0)),
                      ("covers", 2, (1,)), ("covers", 2, (0, True)), ("covers", "2", (0, 1)), ("covers", 2, (0, 1), 1),
                      ("covers", (0, 1)), ("less", 2, (0, 1)), (2, "covers", (0, 1)), ("covers", 2, None),
                      ("covers", None, (0, 1)), ("covers", 2, (-1, 1))]:
            with self.subTest(value=value):
                self.assertIs(rules.is_covering(one, other, value), False)
        self.assertIs(rules.is_covering(Load(cart=1), NOTHING, ("covers", 1, (0, 0))), True)
        self.assertIs(Exchanges().is_covering(NOTHING, NOTHING, ("covers", 3, ())), True)
        self.assertIs(Exchanges().is_covering(NOTHING, NOTHING, ("covers", True, ())), False)


if __name__ == "__main__":
    unittest.main()
