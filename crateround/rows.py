"""Loads as rows of counts, and what they weigh."""

from crateround.checks import ascending
from crateround.loads import Load


def row_of(load, kinds):
    """The counts of these kinds."""
    return [load[kind] for kind in kinds]


def load_of(row, kinds):
    """The load with these counts of these kinds."""
    return Load.of(dict(zip(kinds, row)))


def kinds_of_pairs(pairs):
    """The tuple of the kinds that occur in pairs of loads, ascending."""
    return tuple(ascending([kind for left, right in pairs for kind in [*left.kinds, *right.kinds]]))


def weights_of(row, kinds):
    """The weights other than 0 of these kinds."""
    return {kind: weight for kind, weight in zip(kinds, row) if weight != 0}


def weight_of(load, weights, modulus):
    """What the load weighs, modulo the modulus if it is not 0."""
    weight = sum([count * weights.get(kind, 0) for kind, count in load.counts.items()])
    return weight if modulus == 0 else int(weight) % modulus


def ranked(rows):
    """The different ones of these rows of counts from 0 on, in ascending order."""
    # Texts of one width are ordered as their counts are; LANGUAGE.md (L5) sorts no tuples beside loads.
    width = max([len(str(count)) for row in rows for count in row], default=0)
    texts = {" ".join([str(count).zfill(width) for count in row]): row for row in rows}
    return [texts[text] for text in sorted(texts, key=str)]
