"""Whether any values have the form of stocks, pairs, weightings and loans."""

from crateround.checks import is_integer, is_integers, is_weights
from crateround.loads import Load

MOST_COUNT = 10 ** 6


def is_stock(value):
    """Whether any value is a load without negative counts."""
    return isinstance(value, Load) and value >= Load()


def is_pair(value):
    """Whether any value is a pair of which rules are made."""
    if not isinstance(value, tuple) or len(value) != 2:
        return False
    return all([is_stock(side) and is_small(side) for side in value])


def is_small(load):
    """Whether no count is above the most that a pair may have."""
    return all([count <= MOST_COUNT for count in load.counts.values()])


def is_weighting_form(value):
    """Whether any value is a tuple of weights and a modulus."""
    if not isinstance(value, tuple) or len(value) != 2:
        return False
    weights, modulus = value
    return is_weights(weights) and is_integer(modulus) and (modulus == 0 or modulus > 1)


def is_loan_form(value, many):
    """Whether any value is a tuple of a stock and a list of uses of so many pairs."""
    if not isinstance(value, tuple) or len(value) != 2:
        return False
    load, uses = value
    if not is_stock(load) or not isinstance(uses, list):
        return False
    return all([is_integers(use, 2) and 0 <= use[0] < many and use[1] != 0 for use in uses])
