"""Comparing and joining rules: point 23."""

import itertools
import operator
import random
import unittest

from crateround.exchanges import Exchanges
from crateround.loads import Load
from helpers import NOTHING, any_values, halves, random_rules, samples

MULTIPLES = {number: Exchanges((Load(a=number), NOTHING)) for number in (1, 2, 3, 4, 6, 12)}


class ComparingTest(unittest.TestCase):

    def test_multiples(self):
        for one, other in itertools.product(MULTIPLES, repeat=2):
            rules, others = MULTIPLES[one], MULTIPLES[other]
            self.assertIs(rules <= others, one % other == 0)
            self.assertIs(rules < others, one % other == 0 and one != other)
            self.assertIs(rules >= others, other % one == 0)
            self.assertIs(rules > others, other % one == 0 and one != other)
            self.assertIs(rules == others, one == other)
            self.assertIs(rules != others, one != other)

    def test_equal_rules_with_other_pairs(self):
        one = Exchanges((Load(a=4), NOTHING), (Load(a=6), NOTHING), (Load(b=1), Load(b=1)))
        self.assertTrue(one == MULTIPLES[2])
        self.assertTrue(one <= MULTIPLES[2] and one >= MULTIPLES[2])
        self.assertFalse(one < MULTIPLES[2] or one > MULTIPLES[2])
        self.assertTrue(Exchanges() == Exchanges((NOTHING, NOTHING)) == Exchanges((Load(c=2), Load(c=2))))
        self.assertTrue(halves() == halves().reduced())
        self.assertTrue(Exchanges((Load(a=1), Load(b=1))) == Exchanges((Load(b=1), Load(a=1))))
        self.assertFalse(Exchanges((Load(a=1), Load(b=1))) == Exchanges((Load(a=1), Load(c=1))))

    def test_other_values(self):
        for value in [*any_values(), Load(), Load(a=1), ()]:
            for rules in (Exchanges(), halves()):
                self.assertIs(rules == value, False)
                self.assertIs(value == rules, False)
                self.assertIs(rules != value, True)

    def test_no_signs_between_rules_and_other_values(self):
        for value in (None, True, 1, "box", (1,), {"box": 1}, Load(box=1)):
            for sign in (operator.or_, operator.and_, operator.le, operator.lt, operator.ge, operator.gt):
                for one, other in [(halves(), value), (value, halves())]:
                    with self.subTest(value=value, sign=sign), self.assertRaises(TypeError):
                        sign(one, other)

    def test_neither_is_less(self):
        one, other = MULTIPLES[4], MULTIPLES[6]
        self.assertEqual([one <= other, one >= other, one < other, one > other, one == other], [False] * 5)


class JoiningTest(unittest.TestCase):

    def test_multiples(self):
        self.assertEqual((MULTIPLES[4] | MULTIPLES[6]).pairs, ((Load(a=2), NOTHING),))
        self.assertEqual((MULTIPLES[4] & MULTIPLES[6]).pairs, ((Load(a=12), NOTHING),))
        self.assertEqual((MULTIPLES[4] | Exchanges()).pairs, MULTIPLES[4].pairs)
        self.assertEqual((MULTIPLES[4] & Exchanges()).pairs, ())
        self.assertEqual((MULTIPLES[4] & Exchanges()).kinds, ())

    def test_other_kinds(self):
        one, other = Exchanges((Load(b=2), Load(a=1))), Exchanges((Load(c=3), Load(b=1)))
        self.assertEqual((one | other).pairs, ((Load(a=1), Load(c=6)), (Load(b=1), Load(c=3))))
        self.assertEqual((one & other).pairs, ())
        self.assertEqual(one.pairs, ((Load(b=2), Load(a=1)),))

    def test_small_loads(self):
        """The loads of an intersection are those of both rules; those of a union are their sums."""
        chosen = random.Random(3)
        for _ in range(30):
            one, other = (random_rules(chosen, chosen.randint(0, 2), "ab", 4, 0.8) for _ in range(2))
            both, either = one & other, one | other
            for counts in itertools.product(range(-6, 7), repeat=2):
                load = Load.of(dict(zip("ab", counts)))
                self.assertIs(load in both, load in one and load in other)
            self.assertEqual(either, Exchanges(*one.pairs, *other.pairs))
            for left, right in [*one.pairs, *other.pairs]:
                self.assertTrue(either.is_equivalent(left, right))

    def test_all_samples(self):
        rules = samples()
        for one, other in zip(rules, [*rules[9:], *rules[:9]]):
            both, either = one & other, one | other
            for found in (both, either):
                self.assertIs(type(found), Exchanges)
                self.assertEqual(found.pairs, found.reduced().pairs)
                self.assertEqual(found.kinds, found.reduced().kinds)
            self.assertTrue(both <= one <= either and both <= other <= either)
            self.assertEqual(len(both.basis()) + len(either.basis()), len(one.basis()) + len(other.basis()))
            self.assertEqual(one | one, one)
            self.assertEqual(one & one, one)
            self.assertEqual((one & either), one)
            self.assertEqual((one | both), one)
            self.assertEqual((other | one).pairs, either.pairs)
            self.assertEqual((other & one).pairs, both.pairs)

    def test_more_pairs_and_kinds_than_may_be_passed(self):
        one = Exchanges(*[(Load.of({kind: 10 ** 6}), NOTHING) for kind in "abcdef"])
        other = Exchanges(*[(Load.of({kind: 999999}), NOTHING) for kind in "fghijk"])
        either, both = one | other, one & other
        self.assertEqual((len(either.pairs), len(either.kinds)), (11, 11))
        self.assertEqual(either.steps["f"], 1)
        self.assertEqual(both.pairs, ((Load(f=999999 * 10 ** 6), NOTHING),))
        self.assertEqual(both & MULTIPLES[1], Exchanges())
        self.assertTrue(both < either)
        self.assertEqual((either | both).pairs, either.pairs)
        self.assertEqual(len(either.weightings()), len(either.structure()[0]))
        self.assertEqual(either.is_fairness(either.fairness()), True)


class SeparatingTest(unittest.TestCase):

    def test_separating(self):
        rules = samples()
        for one, other in zip([*rules, *rules], [*rules, *rules[5:], *rules[:5]]):
            load = one.separating(other)
            if load is None:
                self.assertEqual(one, other)
                continue
            self.assertIs(type(load), Load)
            self.assertNotEqual(load in one, load in other)
            self.assertNotEqual(one, other)
        self.assertIsNone(halves().separating(halves().reduced()))
        self.assertIsNotNone(MULTIPLES[2].separating(MULTIPLES[4]))
        self.assertIsNotNone(MULTIPLES[4].separating(MULTIPLES[2]))
        self.assertIsNotNone(Exchanges().separating(MULTIPLES[2]))


if __name__ == "__main__":
    unittest.main()
