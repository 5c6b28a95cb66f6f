"""Whether any values have the form of stocks, pairs, weightings, loans, and of what makes a yard."""

from crateround.checks import is_integer, is_integers, is_weights, is_word
from crateround.loads import Load

MOST_COUNT = 10 ** 6
MOST_HOUSES = 9


def is_stock(value):
    """Whether any value is a load without negative counts."""
    return isinstance(value, Load) and value >= Load()


def is_pair(value):
    """Whether any value is a pair of which rules are made."""
    if not isinstance(value, tuple) or len(value) != 2:
        return False
    return all([is_stock(side) and is_small(side) for side in value])


def is_small(load):
    """Whether no count is above the most that a pair may have."""
    return all([count <= MOST_COUNT for count in load.counts.values()])


def is_weighting_form(value):
    """Whether any value is a tuple of weights and a modulus."""
    if not isinstance(value, tuple) or len(value) != 2:
        return False
    weights, modulus = value
    return is_weights(weights) and is_integer(modulus) and (modulus == 0 or modulus > 1)


def is_loan_form(value, many):
    """Whether any value is a tuple of a stock and a list of uses of so many pairs."""
    if not isinstance(value, tuple) or len(value) != 2:
        return False
    load, uses = value
    if not is_stock(load) or not isinstance(uses, list):
        return False
    return all([is_integers(use, 2) and 0 <= use[0] < many and use[1] != 0 for use in uses])


def is_nets(value):
    """Whether any value is a dict from one to nine houses to loads."""
    if not isinstance(value, dict) or not 1 <= len(value) <= MOST_HOUSES:
        return False
    return all([is_word(house) and isinstance(value[house], Load) for house in value])


def is_houses_of(value, houses):
    """Whether any value is a list or a tuple of some of these houses."""
    return isinstance(value, (list, tuple)) and all([is_word(house) and house in houses for house in value])


def is_road(value, houses):
    """Whether any value is a tuple of two different ones of these houses."""
    if not isinstance(value, tuple) or len(value) != 2:
        return False
    return is_houses_of(value, houses) and value[0] != value[1]


def is_roads(value, houses):
    """Whether any value is a list or a tuple of roads between these houses."""
    return isinstance(value, (list, tuple)) and all([is_road(road, houses) for road in value])
