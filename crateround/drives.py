"""Drives: with as few as possible, all houses of a yard are evened along its roads."""

from crateround.checks import ascending, ascending_pairs, is_word
from crateround.errors import InvalidYard, Stuck, TooMany
from crateround.forms import is_houses_of, is_nets, is_roads
from crateround.graphs import links_within, tree_from, trees_of
from crateround.loads import Load
from crateround.notes import Note

MOST_ORDERED = 9


class Yard:
    """Houses with what each has too much, at roads, some of them with a counter."""

    def __init__(self, exchanges, nets, roads, counters=()):
        if not is_nets(nets):
            raise InvalidYard("nets")
        if not is_roads(roads, nets):
            raise InvalidYard("roads")
        if not is_houses_of(counters, nets):
            raise InvalidYard("counters")
        self._exchanges = exchanges
        self._nets = {house: nets[house] for house in ascending(nets)}
        self._roads = tuple(ascending_pairs([ascending(road) for road in roads]))
        self._counters = tuple(ascending(counters))

    @property
    def nets(self):
        """A dict from the houses to what each has too much."""
        return dict(self._nets)

    @property
    def roads(self):
        """The tuple of the roads, ascending, the lesser house first."""
        return self._roads

    @property
    def counters(self):
        """The tuple of the houses with a counter, ascending."""
        return self._counters

    def is_even(self, value):
        """Whether any value is a list of drives along the roads that evens the yard."""
        if not isinstance(value, list) or not all([self._is_drive(drive) for drive in value]):
            return False
        loads = dict(self._nets)
        for one, other, load in value:
            loads[one] = loads[one] - load
            loads[other] = loads[other] + load
        return all([self._can_leave([house], loads[house]) for house in loads])

    def stuck(self):
        """Connected houses that show that the yard cannot be evened, None if it can be."""
        for tree in trees_of(self._nets, self._roads):
            if not self._can_leave(tree, self._sum(tree)):
                return tuple(ascending(tree))
        return None

    def fewest(self):
        """The least number of drives that even the yard, None if it cannot be evened."""
        return None if self.stuck() is not None else len(self._nets) - len(self._most_parts())

    def drives(self):
        """A list of so few drives that even the yard."""
        self._check_stuck()
        return [drive for part in self._most_parts() for drive in self._drives_within(part)]

    def parts(self):
        """As many connected sets of houses as possible that can be evened each within itself."""
        self._check_stuck()
        return self._most_parts()

    def _check_stuck(self):
        """Raise Stuck if the yard cannot be evened."""
        place = self.stuck()
        if place is not None:
            raise Stuck(place)

    def _is_drive(self, value):
        """Whether any value is a drive along a road of the yard."""
        if not isinstance(value, tuple) or len(value) != 3:
            return False
        one, other, load = value
        if not is_word(one) or not is_word(other) or not isinstance(load, Load):
            return False
        return (one, other) in self._roads or (other, one) in self._roads

    def _can_leave(self, houses, load):
        """Whether these houses can be left with this load alone, at one of them."""
        if not load:
            return True
        return load in self._exchanges and any([house in self._counters for house in houses])

    def _sum(self, houses):
        """The sum of the nets of these houses."""
        loads = [self._nets[house] for house in houses]
        return Load.total(*loads)

    def _most_parts(self):
        """The parts of a yard that can be evened."""
        houses = list(self._nets)
        whole = (1 << len(houses)) - 1
        places = [places_of(number, houses) for number in range(whole + 1)]
        good = [number for number in range(1, whole + 1) if self._is_part(places[number])]
        return tuple([places[number] for number in most_numbers(good, whole)])

    def _is_part(self, place):
        """Whether these houses are connected and can be evened within themselves."""
        tree = tree_from(place[0], links_within(place, self._roads))
        return len(tree) == len(place) and self._can_leave(place, self._sum(place))

    def _drives_within(self, part):
        """The drives that even one of the most parts: along a tree, to a counter if there is one.

        None of them has a load of nothing, since the houses behind it would be a part of their own.
        """
        at_counters = [house for house in part if house in self._counters]
        root = at_counters[0] if at_counters else part[0]
        before = tree_from(root, links_within(part, self._roads))
        loads = {house: self._nets[house] for house in part}
        found = []
        for house in list(before)[:0:-1]:
            goal = before[house]
            found.append((house, goal, loads[house]))
            loads[goal] = loads[goal] + loads[house]
        return found


def places_of(number, houses):
    """The tuple of the houses for which the number has a binary digit."""
    return tuple([house for index, house in enumerate(houses) if number >> index & 1])


def most_numbers(good, whole):
    """As many good numbers as possible that have each binary digit of the whole once, the least digits first."""
    parts = {}
    for number in good:
        parts.setdefault(number & -number, []).append(number)
    most = {0: ()}
    for number in range(1, whole + 1):
        for part in parts.get(number & -number, []):
            rest = number - part
            if part & number == part and rest in most:
                if number not in most or len(most[rest]) >= len(most[number]):
                    most[number] = (part, *most[rest])
    return most[whole]


def drive_notes(drives, day, number):
    """The notes on this day that tell the drives, numbered from this number on."""
    found = []
    for one, other, load in drives:
        for giver, taker, part in ((one, other, load.positive), (other, one, load.negative)):
            if part:
                found.append(Note(number + len(found), day, giver, taker, part))
    return found


def first_order(drives, stocks):
    """The first order of the indexes of the drives in which each can be done, None if there is none."""
    if len(drives) > MOST_ORDERED:
        raise TooMany(MOST_ORDERED)
    return order_from((), drives, stocks, {})


def order_from(done, drives, stocks, failed):
    """The first such order that begins with the drives done, which led to these stocks, or None.

    failed collects the sets of drives after which the other ones cannot be done, whatever their order was.
    """
    if len(done) == len(drives):
        return done
    key = tuple(sorted(done, key=int))
    if key in failed:
        return None
    for index, drive in enumerate(drives):
        if index not in done and can_drive(drive, stocks):
            found = order_from((*done, index), drives, stocks_after(drive, stocks), failed)
            if found is not None:
                return found
    failed[key] = True
    return None


def can_drive(drive, stocks):
    """Whether both houses have what they give."""
    one, other, load = drive
    return load.positive <= stocks.get(one, Load()) and load.negative <= stocks.get(other, Load())


def stocks_after(drive, stocks):
    """The stocks after a drive."""
    one, other, load = drive
    found = dict(stocks)
    found[one] = found.get(one, Load()) - load
    found[other] = found.get(other, Load()) + load
    return found
