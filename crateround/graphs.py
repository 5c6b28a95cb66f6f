"""Houses that are connected by pairs of houses."""


def links_within(houses, pairs):
    """A dict from these houses to lists of those among them with which they are in a pair."""
    found = {house: [] for house in houses}
    for one, other in pairs:
        if one in found and other in found:
            found[one].append(other)
            found[other].append(one)
    return found


def tree_from(root, links):
    """A dict from the houses that are connected with the root to the house before them on a way from it.

    The root has None. A house comes after the one before it.
    """
    before = {root: None}
    layer = [root]
    while layer:
        later = []
        for house in layer:
            for linked in links[house]:
                if linked not in before:
                    before[linked] = house
                    later.append(linked)
        layer = later
    return before


def trees_of(houses, pairs):
    """A tree for each connected set of the houses, in the order of their first houses."""
    links = links_within(houses, pairs)
    reached = {}
    found = []
    for house in houses:
        if house not in reached:
            tree = tree_from(house, links)
            found.append(tree)
            reached.update(tree)
    return found


def way_up(house, before):
    """The list of the houses from this one to the root of its tree."""
    found = [house]
    while before[found[-1]] is not None:
        found.append(before[found[-1]])
    return found


def way_between(one, other, before):
    """The list of the houses from one to other along their tree."""
    up = way_up(one, before)
    down = way_up(other, before)
    while len(up) > 1 and len(down) > 1 and up[-2] == down[-2]:
        up.pop()
        down.pop()
    return [*up, *down[:-1][::-1]]
