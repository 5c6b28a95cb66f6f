"""Rules, values and checks that several tests use.

The checks follow the words of the document over plain dicts, without the methods under test.
"""

import itertools
import random

from crateround.errors import InvalidPair
from crateround.exchanges import Exchanges
from crateround.loads import Load

NOTHING = Load()


def halves():
    return Exchanges((Load(half=2), Load(whole=1)), (Load(whole=2), Load(rack=2)))


def any_values():
    """Values of all kinds, none of which is a load, rules or anything that shows something."""
    return [None, True, False, 0, 1, -3, 10 ** 79, "", "a", "fair", "less", b"", b"box", (), (1,),
            (None, None), (1, 2, 3), [], [1], [[]], {}, {"a": 1}, {1: "a"}, {None: None}, {"a": [1]},
            ("fair",), ("fair", None), ("gift", None), ("less", 3), ("covers", 1), ({}, None),
            (None, 0), ("covers", None, ()), ("covers", 1, None), InvalidPair(0)]


def samples():
    """Rules of many kinds: small ones and large ones, with and without pairs and kinds."""
    chosen = random.Random(20)
    found = [
        Exchanges(),
        Exchanges((NOTHING, NOTHING)),
        Exchanges((Load(a=1), Load(a=1))),
        Exchanges((Load(a=1), NOTHING)),
        Exchanges((Load(a=4), NOTHING), (NOTHING, Load(a=6))),
        Exchanges((Load(b=2), Load(c=3))),
        Exchanges((Load(a=2), NOTHING), (Load(b=3), NOTHING), (Load(c=4), NOTHING)),
        halves(),
    ]
    for many, kinds, most in [(1, "a", 3), (2, "ab", 4), (3, "ab", 5), (2, "abc", 3), (3, "abc", 9),
                              (4, "abcd", 6), (8, "abcd", 50), (6, "abcdef", 10 ** 6),
                              (8, "abcdef", 10 ** 6), (5, "abcdef", 10 ** 6), (8, "abcdef", 2)]:
        for share in (0.4, 0.9):
            found.append(random_rules(chosen, many, kinds, most, share))
    return found


def random_rules(chosen, many, kinds, most, share):
    def side():
        return Load.of({kind: chosen.randint(0, most) for kind in kinds if chosen.random() < share})
    return Exchanges(*[(side(), side()) for _ in range(many)])


def load_pairs(rules, seed):
    """Pairs of loads, some of them equivalent and some with kinds that are in no pair."""
    chosen = random.Random(seed)
    kinds = [*rules.kinds, "other", "zz"]
    found = [(NOTHING, NOTHING), (Load(other=1), NOTHING), (NOTHING, Load(zz=2))]
    for most in (1, 6, 6, 10 ** 80 - 1):
        one = Load.of({kind: chosen.randint(-most, most) for kind in kinds})
        factors = [chosen.randint(-4, 4) for _ in rules.pairs]
        found.append((one, one + difference_sum(rules, factors)))
        found.append((one, one + difference_sum(rules, factors) + Load.of({chosen.choice(kinds): 1})))
        found.append((one, Load.of({kind: chosen.randint(-most, most) for kind in rules.kinds})))
    return found


def difference_sum(rules, factors):
    """The sum of a combination, kind by kind."""
    counts = {}
    for factor, (left, right) in zip(factors, rules.pairs):
        for kind in rules.kinds:
            counts[kind] = counts.get(kind, 0) + factor * (left[kind] - right[kind])
    return Load.of(counts)


def small_sums(rules, most):
    """All sums of combinations of integers from -most to most."""
    return [difference_sum(rules, factors)
            for factors in itertools.product(range(-most, most + 1), repeat=len(rules.pairs))]


def weight(load, weights):
    return sum(count * weights.get(kind, 0) for kind, count in load.counts.items())


def weighs_nothing(load, weighting):
    weights, modulus = weighting
    return weight(load, weights) % modulus == 0 if modulus else weight(load, weights) == 0


def is_valid(rules, weighting):
    return all(weighs_nothing(left - right, weighting) for left, right in rules.pairs)


def check_weighting_form(case, weighting):
    case.assertIs(type(weighting), tuple)
    weights, modulus = weighting
    check_dict(case, weights)
    case.assertIs(type(modulus), int)
    case.assertTrue(modulus == 0 or modulus >= 2)


def check_dict(case, value):
    """The keys are ascending words, the values integers."""
    case.assertIs(type(value), dict)
    case.assertEqual(list(value), sorted(value))
    for key, entry in value.items():
        case.assertIs(type(key), str)
        case.assertIs(type(entry), int)


def check_integers(case, value, many):
    case.assertIs(type(value), tuple)
    case.assertEqual(len(value), many)
    for entry in value:
        case.assertIs(type(entry), int)
