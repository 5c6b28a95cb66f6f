"""Lattices: all sums of rows of integers, each multiplied by an integer.

The pivot of a row is the column of its first entry other than 0. A basis is in Hermite form if each
row has a greater pivot than the row before, the entry at its pivot is above 0, and the entries of
the earlier rows in that column are from 0 to that entry - 1. Each lattice has exactly one basis in
this form.

Nothing here changes what it is passed, since the operators of the package use it.
"""

from math import gcd


def pivot(row):
    """The column of the first entry other than 0, the number of columns if there is none."""
    for column, entry in enumerate(row):
        if entry != 0:
            return column
    return len(row)


def mixed(times, row, more, other):
    """times * row + more * other."""
    return [times * left + more * right for left, right in zip(row, other)]


def turned(rows, width):
    """The columns of rows of this width, as rows."""
    return [[row[column] for row in rows] for column in range(width)]


def bezout(one, other):
    """[divisor, times, more]: the greatest common divisor, which is times * one + more * other.

    one is above 0, and the result [one, 1, 0] if it divides other.
    """
    before = [other, 0, 1]
    now = [one, 1, 0]
    while now[0] != 0:
        rest = mixed(1, before, -(before[0] // now[0]), now)
        before = now
        now = rest
    return before


def lowest(row):
    """A row, not of 0 alone, divided by the greatest common divisor of its entries."""
    most = 0
    for entry in row:
        most = gcd(most, entry)
    return [entry // most for entry in row]


def residue(row, basis):
    """The row plus a sum of basic rows, with entries from 0 to the basic entry - 1 at their pivots."""
    rest = row
    for basic in basis:
        column = pivot(basic)
        rest = mixed(1, rest, -(rest[column] // basic[column]), basic)
    return rest


def centered(row, basis):
    """As residue, but with entries around 0 at the pivots, so that small entries stay small."""
    rest = row
    for basic in basis:
        column = pivot(basic)
        times = (2 * rest[column] + basic[column]) // (2 * basic[column])
        rest = mixed(1, rest, -times, basic)
    return rest


def hermite(rows):
    """The basis in Hermite form of the lattice of the rows."""
    basis = []
    for row in rows:
        basis = joined(basis, row)
    return basis


def joined(basis, row):
    """The basis in Hermite form of the lattice of such a basis and one more row."""
    kept = {pivot(basic): basic for basic in basis}
    rest = row
    for column in range(len(row)):
        if rest[column] == 0:
            continue
        if column not in kept:
            kept[column] = rest if rest[column] > 0 else [-entry for entry in rest]
            break
        old = kept[column]
        # Without this, entries would double their digits with each column.
        later = [basic for basic in basis if pivot(basic) > column]
        most, times, more = bezout(old[column], rest[column])
        kept[column] = residue(mixed(times, old, more, rest), later)
        rest = residue(mixed(old[column] // most, rest, -(rest[column] // most), old), later)
    return tidied([kept[column] for column in sorted(kept, key=int)])


def tidied(rows):
    """The Hermite form of rows that lack only the right entries above the pivots."""
    basis = []
    for row in reversed(list(rows)):
        basis = [residue(row, basis), *basis]
    return basis


def unit(index, many):
    """The row of so many entries with 1 at this index and 0 elsewhere."""
    return [1 if place == index else 0 for place in range(many)]


def tracked(rows):
    """The Hermite form of the rows, each followed by a row that has 1 at its index only.

    What follows a row of the result tells which multiples of the rows add up to it.
    """
    many = len(rows)
    return hermite([[*row, *unit(index, many)] for index, row in enumerate(rows)])


def before_column(rows, width):
    """The rows with a pivot before this column."""
    return [row for row in rows if pivot(row) < width]


def behind_column(rows, width):
    """What stands from this column on in the rows that are 0 before it."""
    return [row[width:] for row in rows if pivot(row) >= width]


def multiples(row, rows):
    """Integers by which the rows are multiplied to add up to the row, None if there are none."""
    width = len(row)
    table = tracked(rows)
    rest = residue([*row, *[0 for _ in rows]], before_column(table, width))
    if any(rest[:width]):
        return None
    return centered([-entry for entry in rest[width:]], behind_column(table, width))


def shared(rows, others, width):
    """The basis of the lattice that the lattices of the rows and of the others have in common."""
    doubled = [[*row, *row] for row in rows]
    single = [[*row, *[0 for _ in row]] for row in others]
    return behind_column(hermite([*doubled, *single]), width)


def weighing_nothing(weights, modulus):
    """The basis of the lattice of the rows that weigh 0, modulo the modulus if it is not 0."""
    width = len(weights)
    rows = [[weight] for weight in weights]
    table = tracked([*rows, [modulus]])
    return hermite([row[:width] for row in behind_column(table, 1)])


def order_of(row, basis):
    """The least number from 1 on by which the row gets into the lattice, None if there is none."""
    order = 1
    rest = row
    for basic in basis:
        column = pivot(basic)
        factor = basic[column] // gcd(basic[column], rest[column])
        order = order * factor
        rest = mixed(factor, rest, -(factor * rest[column] // basic[column]), basic)
    return None if any(rest) else order


def smith(basis, width):
    """(scales, free): which rows of this width are in the lattice of a basis.

    scales is a list of tuples (factor, weights), free a list of weights. Each factor divides the
    next one. A row is in the lattice exactly if its products with the weights are 0, modulo the
    factor for those in scales. All weights together are a basis of the rows of integers.
    """
    many = len(basis)
    table = tracked(turned(basis, width))
    free = behind_column(table, many)
    return chained(diagonal(before_column(table, many), many)), free


def diagonal(table, many):
    """(factor, weights) of a table in whose rows so many entries stand before the weights.

    Rows and columns of these entries are taken in turn until only the diagonal is left.
    """
    while True:
        square = turned(hermite(turned([row[:many] for row in table], many)), many)
        factors = [row[place] for place, row in enumerate(square)]
        if square == [[factor * entry for entry in unit(place, many)]
                      for place, factor in enumerate(factors)]:
            return [(factor, row[many:]) for factor, row in zip(factors, table)]
        table = hermite([[*row, *old[many:]] for row, old in zip(square, table)])


def chained(scales):
    """Scales for the same rows, in which each factor divides the next one."""
    found = list(scales)
    for one in range(len(found)):
        for other in range(one + 1, len(found)):
            found[one], found[other] = divided(found[one], found[other])
    return found


def divided(one, other):
    """Two scales for the same rows as these two, the first factor a divisor of the second."""
    most, times, more = bezout(one[0], other[0])
    first = mixed(1, one[1], 1, other[1])
    second = mixed(-more * other[0] // most, one[1], times * one[0] // most, other[1])
    return (most, first), (one[0] * other[0] // most, second)
