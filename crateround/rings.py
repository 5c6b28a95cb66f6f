"""Rings: debts are evened around houses, and nothing is moved."""

from crateround.checks import ascending, ascending_pairs
from crateround.errors import Uneven
from crateround.graphs import trees_of, way_between
from crateround.loads import Load


def net_loads(exchanges, debts):
    """A dict from all houses in debts to their plain nets."""
    found = {house: [] for house in houses_of(debts)}
    for (one, other), load in debts.items():
        found[one].append(load)
        found[other].append(-load)
    return {house: exchanges.plain(Load.total(*loads)) for house, loads in found.items()}


def rings(exchanges, debts):
    """A list of rings after which all debts are equivalent to nothing."""
    for house, net in net_loads(exchanges, debts).items():
        if net:
            raise Uneven(house)
    plain = plain_debts(exchanges, debts)
    before = {}
    for tree in trees_of(houses_of(plain), plain):
        before.update(tree)
    # Each pair that is in no tree is evened along its tree. What is left in the tree is equivalent to
    # nothing then: at its ends since the houses there are even, and so on towards its root.
    return [(tuple(way_between(other, one, before)), load) for (one, other), load in plain.items()
            if before[one] != other and before[other] != one]


def after_rings(exchanges, debts, rings):
    """The plain debts after these rings, without those that are nothing."""
    changed = {pair: debts[pair] for pair in debts}
    for houses, load in rings:
        for giver, taker in zip(houses, [*houses[1:], houses[0]]):
            if giver < taker:
                changed[(giver, taker)] = changed.get((giver, taker), Load()) - load
            else:
                changed[(taker, giver)] = changed.get((taker, giver), Load()) + load
    return plain_debts(exchanges, changed)


def houses_of(pairs):
    """All houses in these pairs, ascending."""
    return ascending([house for pair in pairs for house in pair])


def plain_debts(exchanges, debts):
    """A dict from the pairs, ascending, to their plain debts, without those that are nothing."""
    found = {pair: exchanges.plain(debts[pair]) for pair in ascending_pairs(debts)}
    return {pair: load for pair, load in found.items() if load}
