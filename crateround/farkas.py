"""Equations with integer coefficients: solved from 0 on, or refuted.

The simplex method over integers: all entries of a table are told over one common scale, so that no
fraction comes up. The least index is taken wherever there is a choice, which keeps the steps from
going round in circles.
"""


def solve(rows, goals, width):
    """(values, scale, None) or (None, None, factors), for rows of this width.

    The values are integers from 0 on, and the sum of the products of a row with them is scale times
    its goal, for each row. Otherwise the rows, each multiplied by its factor, add up to entries that
    are all from 0 on, and the goals, multiplied likewise, to less than 0.
    """
    many = len(rows)
    table = first_table(rows, goals, width)
    # Each row stands for a column; behind the width they stand for what is still missing.
    stands = [width + place for place in range(many)]
    scale = 1
    column = entering(table, width)
    while column is not None:
        place = leaving(table, stands, column)
        table = exchanged(table, place, column, scale)
        scale = table[place][column]
        stands[place] = column
        column = entering(table, width)
    if table[many][-1] == 0:
        found = {stand: table[index][-1] for index, stand in enumerate(stands)}
        return [found.get(index, 0) for index in range(width)], scale, None
    costs = table[many][width:]
    return None, None, [sign_of(goal) * (cost - scale) for goal, cost in zip(goals, costs)]


def sign_of(goal):
    """The sign that makes a goal one from 0 on."""
    return -1 if goal < 0 else 1


def first_table(rows, goals, width):
    """A row for each equation, with its missing column and its goal, and the row of the costs."""
    many = len(rows)
    table = []
    for place, row in enumerate(rows):
        sign = sign_of(goals[place])
        missing = [1 if index == place else 0 for index in range(many)]
        table.append([*[sign * entry for entry in row], *missing, sign * goals[place]])
    costs = [-column_sum(table, column) for column in range(width)]
    return [*table, [*costs, *[0 for _ in rows], -column_sum(table, -1)]]


def column_sum(table, column):
    """The sum of the entries in this column."""
    return sum([row[column] for row in table])


def entering(table, width):
    """The first column that lessens what is missing, None if none does."""
    for column in range(width):
        if table[-1][column] < 0:
            return column
    return None


def leaving(table, stands, column):
    """The row that limits this column most, of several such the one for the least column."""
    best = None
    for place in range(len(stands)):
        entry = table[place][column]
        if entry <= 0:
            continue
        if best is None:
            best = place
            continue
        ahead = table[place][-1] * table[best][column] - table[best][-1] * entry
        if ahead < 0 or (ahead == 0 and stands[place] < stands[best]):
            best = place
    return best


def exchanged(table, place, column, scale):
    """The table after this row stands for this column."""
    chosen = table[place]
    entry = chosen[column]
    found = []
    for index, row in enumerate(table):
        if index == place:
            found.append(chosen)
            continue
        found.append([(entry * old - row[column] * new) // scale for old, new in zip(row, chosen)])
    return found
