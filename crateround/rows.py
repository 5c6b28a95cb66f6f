"""Loads as rows of counts, and what they weigh."""

from crateround.checks import ascending
from crateround.loads import Load


def row_of(load, kinds):
    """The counts of these kinds."""
    return [load[kind] for kind in kinds]


def load_of(row, kinds):
    """The load with these counts of these kinds."""
    return Load.of(dict(zip(kinds, row)))


def kinds_of_pairs(pairs):
    """The tuple of the kinds that occur in pairs of loads, ascending."""
    return tuple(ascending([kind for left, right in pairs for kind in [*left.kinds, *right.kinds]]))


def weights_of(row, kinds):
    """The weights other than 0 of these kinds."""
    return {kind: weight for kind, weight in zip(kinds, row) if weight != 0}


def weight_of(load, weights, modulus):
    """What the load weighs, modulo the modulus if it is not 0."""
    weight = sum([count * weights.get(kind, 0) for kind, count in load.counts.items()])
    return weight if modulus == 0 else int(weight) % modulus


def worth_of(load, weights):
    """What the load weighs if kinds without a weight weigh 1."""
    return sum([count * weights.get(kind, 1) for kind, count in load.counts.items()])


def ranked(rows):
    """The different ones of these rows of counts from 0 on, in ascending order."""
    # Texts of one width are ordered as their counts are; LANGUAGE.md (L5) sorts no tuples beside loads.
    width = max([len(str(count)) for row in rows for count in row], default=0)
    texts = {" ".join([str(count).zfill(width) for count in row]): row for row in rows}
    return [texts[text] for text in sorted(texts, key=str)]


def ranked_loads(loads):
    """The different ones of the loads, in ascending order of their counts of all kinds that occur in them."""
    kinds = ascending([kind for load in loads for kind in load.kinds])
    lows = [min([load[kind] for load in loads], key=int) for kind in kinds]
    rows = [[load[kind] - low for kind, low in zip(kinds, lows)] for load in loads]
    return [load_of([count + low for count, low in zip(row, lows)], kinds) for row in ranked(rows)]
