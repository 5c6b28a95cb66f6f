"""Loans: point 25."""

import unittest

from crateround.errors import InvalidLoad
from crateround.exchanges import Exchanges
from crateround.loads import Load
from helpers import NOTHING, any_values, halves, load_pairs, samples


class LoanTest(unittest.TestCase):

    def test_known_loans(self):
        rules = halves()
        self.assertEqual(rules.loan(Load(half=2), Load(whole=1)), (NOTHING, [(0, 1)]))
        self.assertEqual(rules.loan(Load(whole=1), Load(half=2)), (NOTHING, [(0, -1)]))
        self.assertEqual(rules.loan(Load(cart=3), Load(cart=3)), (NOTHING, []))
        self.assertEqual(rules.loan(NOTHING, NOTHING), (NOTHING, []))
        self.assertEqual(Exchanges().loan(Load(a=1), Load(a=1)), (NOTHING, []))
        self.assertIsNone(rules.loan(Load(whole=1), Load(rack=1)))
        self.assertIsNone(rules.loan(Load(cart=1), NOTHING))
        self.assertIsNone(Exchanges().loan(Load(a=1), NOTHING))

    def test_something_must_be_borrowed(self):
        rules = Exchanges((Load(a=1, b=1), Load(b=1, c=1)))
        one, other = Load(a=2), Load(c=2)
        self.assertEqual(rules.loan(one, other), (Load(b=2), [(0, 2)]))
        self.assertIs(rules.is_loan(one, other, (Load(b=1), [(0, 1), (0, 1)])), True)
        self.assertIs(rules.is_loan(one, other, (Load(b=1), [(0, 2)])), False)
        self.assertIs(rules.is_loan(one, other, (NOTHING, [(0, 2)])), False)
        self.assertEqual(rules.loan(other, one), (Load(b=2), [(0, -2)]))
        # Both rules together give a for nothing, but each of them takes something first.
        rules = Exchanges((Load(a=1, b=1), Load(c=1)), (Load(c=1), Load(a=2, b=1)))
        load, uses = rules.loan(NOTHING, Load(a=1))
        self.assertTrue(load)
        self.replay(rules, NOTHING, Load(a=1), load, uses)

    def test_loans_of_all_samples(self):
        found = 0
        for number, rules in enumerate(samples()):
            for one, other in load_pairs(rules, number):
                both = one.negative + other.negative
                one, other = one + both, other + both
                loan = rules.loan(one, other)
                self.assertIs(loan is None, rules.combination(one, other) is None)
                if loan is None:
                    continue
                found += 1
                self.assertIs(type(loan), tuple)
                self.replay(rules, one, other, *loan)
                self.assertIs(rules.is_loan(one, other, loan), True)
        self.assertGreater(found, 100)

    def replay(self, rules, one, other, load, uses):
        self.assertIs(type(load), Load)
        self.assertIs(type(uses), list)
        hand = (one + load).counts
        self.assertEqual(load.negative, NOTHING)
        for use in uses:
            self.assertIs(type(use), tuple)
            index, times = use
            self.assertTrue(0 <= index < len(rules.pairs) and times != 0)
            given, taken = rules.pairs[index] if times > 0 else rules.pairs[index][::-1]
            for kind, count in given.counts.items():
                self.assertGreaterEqual(hand.get(kind, 0), abs(times) * count)
                hand[kind] -= abs(times) * count
            for kind, count in taken.counts.items():
                hand[kind] = hand.get(kind, 0) + abs(times) * count
        self.assertEqual(Load.of(hand), other + load)

    def test_negative_counts(self):
        good, wrong, worse = Load(half=2), Load(half=2, whole=-1), Load(half=-1)
        rules = halves()
        for one, other, load in [(wrong, good, wrong), (good, wrong, wrong), (wrong, worse, wrong),
                                 (worse, wrong, worse)]:
            with self.assertRaises(InvalidLoad) as caught:
                rules.loan(one, other)
            self.assertIs(caught.exception.value, load)
            for value in (None, (Load(), [])):
                with self.assertRaises(InvalidLoad) as caught:
                    rules.is_loan(one, other, value)
                self.assertIs(caught.exception.value, load)


class IsLoanTest(unittest.TestCase):

    def test_right_loans(self):
        rules = halves()
        one, other = Load(half=4), Load(rack=2)
        for value in [(NOTHING, [(0, 2), (1, 1)]), (NOTHING, [(0, 1), (0, 1), (1, 1)]),
                      (Load(cart=7), [(0, 2), (1, 1)]),
                      (Load(whole=2), [(1, 1), (0, 2)]), (Load(rack=2), [(1, -1), (1, 1), (0, 2), (1, 1)]),
                      (Load(whole=1), [(0, -1), (0, 3), (1, 1)]),
                      (Load(half=2 * 10 ** 78), [(0, 10 ** 78 + 2), (0, -(10 ** 78)), (1, 1)])]:
            with self.subTest(value=value):
                self.assertIs(rules.is_loan(one, other, value), True)
        self.assertIs(rules.is_loan(one, one, (NOTHING, [])), True)
        self.assertIs(rules.is_loan(NOTHING, NOTHING, (Load(half=3), [])), True)

    def test_wrong_loans(self):
        rules = halves()
        one, other = Load(half=4), Load(rack=2)
        for value in [*any_values(), (NOTHING, [(1, 1), (0, 2)]), (NOTHING, [(0, 2)]), (NOTHING, []),
                      (Load(whole=1), [(1, 1), (0, 2)]), (NOTHING, [(0, 2), (1, 1), (1, 1)]),
                      (NOTHING, [(0, -2), (1, 1)]),
                      (NOTHING, ((0, 2), (1, 1))), [NOTHING, [(0, 2), (1, 1)]], (NOTHING, [[0, 2], (1, 1)]),
                      (NOTHING, [(0, 2), (1, 1)], None), (NOTHING,), (NOTHING, [(0, 2), (1, 1), (0, 0)]),
                      (NOTHING, [(0, 2), (1, True)]), (NOTHING, [(False, 2), (1, 1)]), (NOTHING, [(-2, 2), (-1, 1)]),
                      (NOTHING, [(0, 2), (-1, 1)]),
                      (NOTHING, [(0, 2), (1, 1), (2, 1)]), (NOTHING, [(0, 2), (1, 1), (2, 0)]),
                      (NOTHING, [(0, 2), (1,)]),
                      (NOTHING, [(0, 2), (1, 1, 1)]), (NOTHING, [(0, 2), (1, "1")]), (NOTHING, [(0, 2), None]),
                      (Load(cart=-1), [(0, 2), (1, 1)]), (Load(half=-1), [(0, 2), (1, 1)]), ({}, [(0, 2), (1, 1)]),
                      (None, [(0, 2), (1, 1)]), ([(0, 2), (1, 1)], NOTHING), Load(half=1), rules, (rules, [])]:
            with self.subTest(value=value):
                self.assertIs(rules.is_loan(one, other, value), False)
        self.assertIs(rules.is_loan(Load(whole=1), Load(rack=1), None), False)
        self.assertIs(rules.is_loan(Load(cart=1), NOTHING, (NOTHING, [])), False)
        self.assertIs(Exchanges().is_loan(NOTHING, NOTHING, (NOTHING, [(0, 1)])), False)


if __name__ == "__main__":
    unittest.main()
