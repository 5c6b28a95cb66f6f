"""Points 80, 81 and 82: drives."""

import itertools
import random
import unittest

from crateround.drives import Yard, drive_notes, first_order
from crateround.errors import InvalidYard, Stuck, TooMany
from crateround.exchanges import Exchanges
from crateround.loads import Load
from crateround.notes import Note
from helpers import NOTHING, any_values, halves

BIG = 10 ** 80 - 1
NINE = ("a", "b", "c", "d", "e", "f", "g", "h", "i")
# Under the third ones a multiple is equivalent to nothing, but not the load itself.
RULES = (halves(), Exchanges(), Exchanges((Load(half=3), NOTHING)))


def path(houses):
    return list(zip(houses, houses[1:]))


def is_connected(houses, roads):
    reached = {houses[0]}
    for _ in houses:
        reached |= {house for road in roads if set(road) <= set(houses) and reached & set(road) for house in road}
    return len(reached) == len(houses)


def total(nets, houses):
    return Load.total(*[nets[house] for house in houses])


def is_part(rules, nets, roads, counters, houses):
    load = total(nets, houses)
    fine = load == NOTHING or (load in rules and set(houses) & set(counters))
    return bool(fine) and is_connected(houses, roads)


def partitions(houses):
    """All ways to part a list of houses into lists."""
    if not houses:
        yield []
        return
    for rest in partitions(houses[1:]):
        yield [[houses[0]], *rest]
        for place in range(len(rest)):
            yield [*rest[:place], [houses[0], *rest[place]], *rest[place + 1:]]


def evens(yard, rules, drives):
    """Whether the drives even the yard, by the words of the document."""
    loads = yard.nets
    for one, other, load in drives:
        loads[one] = loads[one] - load
        loads[other] = loads[other] + load
    return all(load in rules if house in yard.counters else load == NOTHING for house, load in loads.items())


def some_yard(chosen, rules, houses):
    """(nets, roads, counters), in which sums are nothing rather often."""
    nets = {house: NOTHING for house in houses}
    for _ in range(chosen.randint(0, len(houses))):
        one, other = chosen.choice(houses), chosen.choice(houses)
        load = Load.of({chosen.choice(["half", "whole", "rack", "cart"]): chosen.randint(1, 2)})
        nets[one] = nets[one] + load
        nets[other] = nets[other] - load
    if chosen.random() < 0.5 and rules.pairs:
        left, right = chosen.choice(rules.pairs)
        one, other = chosen.choice(houses), chosen.choice(houses)
        nets[one] = nets[one] + left
        nets[other] = nets[other] - right
    if chosen.random() < 0.1:
        nets[houses[0]] = nets[houses[0]] + Load(half=1)
    share = chosen.choice([0.3, 0.5, 1])
    roads = [road for road in itertools.combinations(houses, 2) if chosen.random() < share]
    counters = [house for house in houses if chosen.random() < 0.3]
    return nets, roads, counters


class FormTest(unittest.TestCase):

    def test_properties(self):
        nets = {"cy": Load(half=1), "bo": NOTHING, "ann": Load(half=-1, cart=2)}
        roads = [("cy", "ann"), ("bo", "ann"), ("ann", "bo"), ("cy", "ann")]
        counters = ["cy", "bo", "cy"]
        for made in (Yard(halves(), nets, roads, counters), Yard(halves(), nets, tuple(roads), tuple(counters)),
                     Yard(counters=counters, roads=roads, nets=nets, exchanges=halves())):
            self.assertEqual((made.nets, list(made.nets)), (nets, ["ann", "bo", "cy"]))
            self.assertEqual(made.roads, (("ann", "bo"), ("ann", "cy")))
            self.assertEqual(made.counters, ("bo", "cy"))
        self.assertEqual(list(nets), ["cy", "bo", "ann"])
        self.assertEqual((len(roads), counters), (4, ["cy", "bo", "cy"]))
        self.assertEqual((Yard(halves(), nets, []).counters, Yard(halves(), nets, ()).roads), ((), ()))

    def test_yards_copy_what_they_keep(self):
        nets, roads, counters = {"ann": NOTHING, "bo": Load(half=1)}, [("ann", "bo")], ["bo"]
        yard = Yard(halves(), nets, roads, counters)
        nets.clear(), roads.clear(), counters.clear()
        yard.nets.clear()
        self.assertEqual((yard.nets, yard.roads, yard.counters),
                         ({"ann": NOTHING, "bo": Load(half=1)}, (("ann", "bo"),), ("bo",)))

    def test_order_of_roads(self):
        roads = [("bo", "b"), ("ann", "zoe"), ("b", "ann"), ("a", "zoe"), ("ann", "a"), ("ab", "a"), ("zoe", "b")]
        yard = Yard(halves(), {house: NOTHING for road in roads for house in road}, roads)
        self.assertEqual(yard.roads, tuple(sorted(tuple(sorted(road)) for road in roads)))

    def check_invalid(self, field, *arguments):
        with self.assertRaises(InvalidYard) as caught:
            Yard(halves(), *arguments)
        self.assertIs(type(caught.exception), InvalidYard)
        self.assertEqual(caught.exception.field, field)

    def test_wrong_nets(self):
        others = [Load(a=1), halves(), Note(1, 1, "a", "b", Load(a=1)), [("ann", NOTHING)], (("ann", NOTHING),)]
        wrong = [*any_values(), *others, {"Ann": NOTHING}, {"ann": None}, {"ann": 1}, {"ann": {}}, {"": NOTHING},
                 {"abcdefghi": NOTHING}, {1: NOTHING}, {None: NOTHING}, {("a",): NOTHING}, {b"a": NOTHING},
                 {"ann": NOTHING, "bo": "half 1"}, {house: NOTHING for house in (*NINE, "j")}]
        for nets in wrong:
            # Nets come before roads and counters.
            for roads, counters in (([], []), (None, None), ([("ann", "bo")], ["ann"])):
                self.check_invalid("nets", nets, roads, counters)

    def test_wrong_roads(self):
        nets = {"ann": NOTHING, "bo": NOTHING, "cy": Load(a=1)}
        entries = [value for value in any_values() if value not in ([], ())]
        others = [("ann", "ann"), ("ann", "di"), ("ann",), ("ann", "bo", "cy"), ["ann", "bo"], "ab", ("ann", None),
                  ("ann", 1), (["ann"], "bo"), ({}, "ann"), ("ann", b"bo"), {"ann": "bo"}, Load(ann=1), halves(),
                  ("ann", ("bo",)), (NOTHING, NOTHING), ("Ann", "bo"), ("ann", "bobobobobo")]
        for wrong in [*entries, {"ann": "bo"}, {("ann", "bo"): 1}, ("ann", "bo"), Load(ann=1), halves()]:
            for counters in ([], None, ["di"]):
                self.check_invalid("roads", nets, wrong, counters)
        for wrong in [*any_values(), *others]:
            for roads in ([wrong], [("ann", "bo"), wrong], (wrong, ("bo", "cy"))):
                self.check_invalid("roads", nets, roads, None)
        self.check_invalid("roads", {"ann": NOTHING}, [("ann", "ann")])

    def test_wrong_counters(self):
        nets = {"ann": NOTHING, "bo": NOTHING}
        for wrong in [value for value in any_values() if value not in ([], ())]:
            self.check_invalid("counters", nets, [], wrong)
        for wrong in ["ann", {"ann": 1}, Load(ann=1), halves(), b"ann"]:
            self.check_invalid("counters", nets, [("ann", "bo")], wrong)
        for wrong in [*any_values(), "cy", "Ann", b"ann", ("ann",), ["ann"], NOTHING, halves(), {"ann": 1}]:
            for counters in ([wrong], ("ann", wrong), [wrong, "ann", "bo"]):
                self.check_invalid("counters", nets, [("ann", "bo")], counters)

    def test_one_and_nine_houses(self):
        self.assertEqual(Yard(halves(), {"abcdefgh": NOTHING}, []).nets, {"abcdefgh": NOTHING})
        nets = {house: NOTHING for house in NINE}
        self.assertEqual(Yard(halves(), nets, path(NINE), NINE).counters, NINE)


class IsEvenTest(unittest.TestCase):

    def yard(self, *counters):
        return Yard(halves(), {"ann": Load(half=2), "bo": Load(whole=-1), "cy": NOTHING}, [("ann", "bo"), ("cy", "bo")],
                    counters)

    def test_is_even(self):
        yard = self.yard("bo")
        good = [("ann", "bo", Load(half=2))]
        for value in (good, [("bo", "ann", Load(half=-2))], [*good, ("cy", "bo", NOTHING)],
                      [("ann", "bo", Load(half=1)), ("ann", "bo", Load(half=1))],
                      [*good, ("bo", "cy", Load(half=1)), ("cy", "bo", Load(half=1))],
                      [("bo", "cy", Load(half=7)), *good, ("bo", "cy", Load(half=-7))]):
            self.assertIs(yard.is_even(value), True)
        self.assertIs(yard.is_even(value=good), True)
        for value in ([], [("ann", "bo", Load(half=1))], [*good, ("bo", "cy", Load(half=1))], [*good, *good],
                      [("bo", "ann", Load(half=2))], [("ann", "bo", Load(whole=1))], [("ann", "bo", Load(half=2, a=1))],
                      # Between ann and cy there is no road.
                      [("ann", "cy", Load(half=2)), ("cy", "bo", Load(half=2))],
                      [*good, ("ann", "cy", NOTHING)], [*good, ("ann", "ann", NOTHING)],
                      [*good, ("ann", "zoe", NOTHING)], [*good, ("zoe", "yan", NOTHING)],
                      tuple(good), [list(good[0])], [good[0][:2]], [(*good[0], 1)], [*good, None], good[0]):
            self.assertIs(yard.is_even(value), False)
        # Only a house with a counter can be left with what is equivalent to nothing.
        for counters in ((), ("ann",), ("cy",)):
            self.assertIs(self.yard(*counters).is_even(good), False)
        self.assertIs(self.yard("cy").is_even([*good, ("bo", "cy", Load(half=2, whole=-1))]), True)
        self.assertIs(self.yard("ann").is_even([("ann", "bo", Load(whole=1))]), True)

    def test_any_values(self):
        drive = ("ann", "bo", Load(half=2))
        others = [Load(half=2), halves(), self.yard(), Note(1, 1, "a", "b", Load(a=1))]
        for value in [*any_values(), *others]:
            for wrong in (value, [value], [drive, value], [(value, "bo", Load(half=2))], [("ann", value, Load(half=2))],
                          [(value, value, value)], [drive, ("ann", "bo", value)], (drive,), {0: drive}):
                self.assertIs(self.yard("bo").is_even(wrong), False)

    def test_nothing_to_do(self):
        for counters in ([], ["ann"]):
            yard = Yard(halves(), {"ann": NOTHING}, [], counters)
            self.assertIs(yard.is_even([]), True)
            self.assertIs(yard.is_even(()), False)
        self.assertIs(Yard(halves(), {"ann": Load(half=2, whole=-1)}, []).is_even([]), False)
        self.assertIs(Yard(halves(), {"ann": Load(half=2, whole=-1)}, [], ["ann"]).is_even([]), True)
        self.assertIs(Yard(halves(), {"ann": Load(rack=1, whole=-1)}, [], ["ann"]).is_even([]), False)


class YardCase(unittest.TestCase):

    def check(self, rules, nets, roads, counters):
        """All that a yard tells fits its words; (fewest, stuck)."""
        yard = Yard(rules, nets, roads, counters)
        place = yard.stuck()
        sets = components(sorted(nets), roads)
        wrong = [part for part in sets if not is_part(rules, nets, roads, counters, part)]
        self.assertEqual(place is None, not wrong)
        if place is None:
            self.check_even(yard, rules, nets, roads, counters)
        else:
            self.assertIn(list(place), wrong)
            self.assertIs(type(place), tuple)
            self.assertIsNone(yard.fewest())
            for call in (yard.drives, yard.parts):
                with self.assertRaises(Stuck) as caught:
                    call()
                self.assertIs(type(caught.exception), Stuck)
                self.assertIn(list(caught.exception.place), wrong)
                self.assertIs(type(caught.exception.place), tuple)
        return yard

    def check_even(self, yard, rules, nets, roads, counters):
        fewest, drives, parts = yard.fewest(), yard.drives(), yard.parts()
        self.assertEqual(fewest, len(nets) - len(parts))
        self.assertIs(type(drives), list)
        self.assertEqual(len(drives), fewest)
        self.assertTrue(evens(yard, rules, drives))
        self.assertIs(yard.is_even(drives), True)
        used = [tuple(sorted(drive[:2])) for drive in drives]
        self.assertEqual(len(set(used)), len(used))
        for one, other, load in drives:
            self.assertTrue(load)
            self.assertIn(tuple(sorted((one, other))), yard.roads)
        self.assertIs(type(parts), tuple)
        self.assertEqual(sorted(house for part in parts for house in part), sorted(nets))
        self.assertEqual(list(parts), sorted(parts))
        for part in parts:
            self.assertEqual(part, tuple(sorted(part)))
            self.assertTrue(is_part(rules, nets, roads, counters, part))

    def most_parts(self, rules, nets, roads, counters):
        """The most parts, by all partitions."""
        return max(len(parts) for parts in partitions(sorted(nets))
                   if all(is_part(rules, nets, roads, counters, part) for part in parts))


def components(houses, roads):
    found = []
    for house in houses:
        if not any(house in part for part in found):
            part = {house}
            for _ in houses:
                part |= {each for road in roads if part & set(road) for each in road}
            found.append(sorted(part))
    return found


class StuckTest(YardCase):

    def test_stuck(self):
        nets = {"ann": Load(half=2), "bo": Load(whole=-1), "cy": NOTHING, "di": Load(rack=1), "ed": Load(rack=-1)}
        roads = [("ann", "bo"), ("cy", "bo"), ("ed", "di")]
        self.assertEqual(self.check(halves(), nets, roads, []).stuck(), ("ann", "bo", "cy"))
        self.assertEqual(self.check(halves(), nets, roads, ["di", "ed"]).stuck(), ("ann", "bo", "cy"))
        self.assertIsNone(self.check(halves(), nets, roads, ["cy"]).stuck())
        self.assertEqual(self.check(Exchanges(), nets, roads, ["cy"]).stuck(), ("ann", "bo", "cy"))
        self.assertEqual(self.check(halves(), nets, roads[:2], ["cy"]).stuck(), ("di",))

    def test_equivalent_is_not_enough_without_a_counter(self):
        nets = {"a": Load(half=2), "b": Load(whole=-1)}
        for rules, counters, stuck in [(halves(), [], True), (halves(), ["a"], False), (halves(), ["b"], False),
                                       (Exchanges(), ["a", "b"], True)]:
            self.assertEqual(self.check(rules, nets, [("b", "a")], counters).stuck(), ("a", "b") if stuck else None)

    def test_multiples_that_are_nothing(self):
        odd = Load(rack=1, whole=-1)
        for nets, stuck in [({"a": odd, "b": NOTHING}, True), ({"a": odd, "b": odd}, False), ({"a": odd, "b": -odd}, False),
                            ({"a": odd, "b": 3 * odd}, False), ({"a": odd, "b": 2 * odd}, True)]:
            self.assertEqual(self.check(halves(), nets, [("a", "b")], ["b"]).stuck() is not None, stuck)
        self.assertIsNone(self.check(halves(), {"a": odd, "b": -odd}, [("a", "b")], []).stuck())

    def test_houses_without_roads(self):
        nets = {"a": NOTHING, "b": Load(half=2, whole=-1), "c": NOTHING}
        self.assertEqual(self.check(halves(), nets, [], []).stuck(), ("b",))
        yard = self.check(halves(), nets, [], ["b"])
        self.assertEqual((yard.fewest(), yard.drives(), yard.parts()), (0, [], (("a",), ("b",), ("c",))))


class FewestTest(YardCase):

    def test_one_house(self):
        yard = self.check(halves(), {"ann": NOTHING}, [], [])
        self.assertEqual((yard.fewest(), yard.drives(), yard.parts(), yard.stuck()), (0, [], (("ann",),), None))
        yard = self.check(halves(), {"ann": Load(half=1)}, [], ["ann"])
        self.assertEqual((yard.fewest(), yard.stuck()), (None, ("ann",)))
        yard = self.check(halves(), {"ann": Load(half=2, whole=-1)}, [], ["ann"])
        self.assertEqual((yard.fewest(), yard.drives()), (0, []))

    def test_parts(self):
        one, two = Load(box=1), Load(box=2)
        nets = {"a": one, "b": two, "c": -one, "d": -two}
        everywhere = list(itertools.combinations("abcd", 2))
        yard = self.check(halves(), nets, everywhere, [])
        self.assertEqual((yard.fewest(), yard.parts()), (2, (("a", "c"), ("b", "d"))))
        # Without the right roads more drives are needed, and all of them along the path.
        yard = self.check(halves(), nets, path("abcd"), [])
        self.assertEqual((yard.fewest(), yard.parts()), (3, (("a", "b", "c", "d"),)))
        yard = self.check(halves(), nets, path("acbd"), [])
        self.assertEqual((yard.fewest(), yard.parts()), (2, (("a", "c"), ("b", "d"))))

    def test_parts_are_the_most_whatever_comes_first(self):
        """With a and b in one part there are two parts, with a and c three."""
        one, two = Load(box=1), Load(tray=1)
        nets = {"a": one, "b": -one, "c": -one, "d": one, "e": two, "f": -two}
        yard = self.check(Exchanges(), nets, [("a", "b"), ("a", "c"), ("b", "d"), ("c", "e"), ("e", "f"), ("f", "d")], [])
        self.assertEqual((yard.fewest(), yard.parts()), (3, (("a", "c"), ("b", "d"), ("e", "f"))))

    def test_counters_make_more_parts(self):
        nets = {"a": Load(half=2), "b": Load(whole=-1), "c": Load(whole=1), "d": Load(half=-2)}
        for counters, fewest in (([], 3), (["a"], 3), (["a", "d"], 2), (["a", "c"], 2), (["b", "c"], 2), (["a", "b"], 3)):
            self.assertEqual(self.check(halves(), nets, path("abcd"), counters).fewest(), fewest)

    def test_houses_with_nothing_are_passed(self):
        nets = {"a": Load(box=1), "b": NOTHING, "c": Load(box=-1)}
        yard = self.check(halves(), nets, path("abc"), [])
        self.assertEqual((yard.fewest(), yard.parts()), (2, (("a", "b", "c"),)))
        yard = self.check(halves(), nets, [*path("abc"), ("c", "a")], [])
        self.assertEqual((yard.fewest(), yard.parts()), (1, (("a", "c"), ("b",))))

    def test_positive_and_negative_parts_in_one_drive(self):
        nets = {"a": Load(box=1, tray=-2), "b": Load(box=-1, tray=2)}
        yard = self.check(Exchanges(), nets, [("b", "a")], [])
        self.assertIn(yard.drives(), [[("a", "b", nets["a"])], [("b", "a", nets["b"])]])

    def test_nine_houses(self):
        everywhere = list(itertools.combinations(NINE, 2))
        nets = {house: Load(box=count) for house, count in zip(NINE, (1, 2, 3, 4, 5, 6, 7, 8, -36))}
        self.assertEqual(self.check(Exchanges(), nets, everywhere, []).fewest(), 8)
        self.assertEqual(self.check(Exchanges(), nets, path(NINE), NINE).fewest(), 8)
        nets = {house: Load(box=count) for house, count in zip(NINE, (1, 2, 3, 4, -1, -2, -3, -4, 0))}
        self.assertEqual(self.check(Exchanges(), nets, everywhere, []).fewest(), 4)
        self.assertEqual(self.check(halves(), {house: NOTHING for house in NINE}, everywhere, NINE).fewest(), 0)
        nets = {house: Load.of({"kind": BIG, "k" + house: -BIG}) for house in NINE[:-1]}
        nets[NINE[-1]] = -Load.total(*nets.values())
        self.assertEqual(self.check(halves(), nets, path(NINE), []).fewest(), 8)

    def test_by_all_partitions(self):
        fewer, stuck = 0, 0
        for seed in range(250):
            chosen = random.Random(seed)
            rules = RULES[seed % len(RULES)]
            given = some_yard(chosen, rules, list("abcdef")[:chosen.randint(1, 6)])
            yard = self.check(rules, *given)
            if yard.stuck() is None:
                self.assertEqual(len(yard.parts()), self.most_parts(rules, *given))
                fewer += len(yard.parts()) > len(components(sorted(given[0]), given[1]))
            else:
                stuck += 1
        self.assertGreater(fewer, 50)
        self.assertGreater(stuck, 20)

    def test_fewest_by_all_drives(self):
        """No fewer drives do it, whatever their loads: along each choice of roads, forests are enough."""
        for seed in range(60):
            chosen = random.Random(1000 + seed)
            rules = RULES[seed % len(RULES)]
            nets, roads, counters = some_yard(chosen, rules, list("abcd"))
            fewest = Yard(rules, nets, roads, counters).fewest()
            enough = [many for many in range(len(roads) + 1) for some in itertools.combinations(roads, many)
                      if all(is_part(rules, nets, some, counters, part) for part in components(sorted(nets), some))]
            self.assertEqual(fewest, min(enough, default=None))

    def test_equal_yards(self):
        for seed in range(30):
            chosen = random.Random(seed)
            nets, roads, counters = some_yard(chosen, halves(), list("abcdefg"))
            one = Yard(halves(), nets, roads, counters)
            turned = [road[::-1] for road in reversed(roads)] * 2
            other = Yard(halves(), dict(reversed(list(nets.items()))), turned, counters[::-1] * 2)
            self.assertEqual((one.nets, one.roads, one.counters), (other.nets, other.roads, other.counters))
            self.assertEqual((one.stuck(), one.fewest()), (other.stuck(), other.fewest()))
            if one.stuck() is None:
                self.assertEqual((one.drives(), one.parts()), (other.drives(), other.parts()))
                one.drives().clear()
                self.assertEqual(len(one.drives()), one.fewest())


class NotesTest(unittest.TestCase):

    def test_drive_notes(self):
        drives = [("ann", "bo", Load(box=2, tray=-1)), ("cy", "bo", Load(box=-3)), ("ann", "cy", NOTHING),
                  ("di", "ann", Load(box=1, cart=2))]
        wanted = [Note(7, -4, "ann", "bo", Load(box=2)), Note(8, -4, "bo", "ann", Load(tray=1)),
                  Note(9, -4, "bo", "cy", Load(box=3)), Note(10, -4, "di", "ann", Load(box=1, cart=2))]
        for found in (drive_notes(drives, -4, 7), drive_notes(tuple(drives), -4, 7),
                      drive_notes(number=7, day=-4, drives=drives)):
            self.assertEqual(found, wanted)
            self.assertIs(type(found), list)
        self.assertEqual(drive_notes([], 1, 1), [])
        self.assertEqual(drive_notes([("a", "b", NOTHING)] * 3, 1, 1), [])
        self.assertEqual(drive_notes([("a", "b", Load(x=BIG))], BIG, BIG), [Note(BIG, BIG, "a", "b", Load(x=BIG))])

    def test_told_by_the_drives_of_a_yard(self):
        yard = Yard(halves(), {"a": Load(box=1, tray=-2), "b": NOTHING, "c": Load(box=-1, tray=2)}, path("abc"))
        notes = drive_notes(yard.drives(), 3, 1)
        loads = yard.nets
        for note in notes:
            loads[note.giver] = loads[note.giver] - note.load
            loads[note.taker] = loads[note.taker] + note.load
        self.assertEqual(set(map(bool, loads.values())), {False})
        self.assertEqual([note.number for note in notes], list(range(1, len(notes) + 1)))


class OrderTest(unittest.TestCase):

    def first(self, drives, stocks):
        """The first order, by all orders."""
        for order in itertools.permutations(range(len(drives))):
            left = dict(stocks)
            for index in order:
                one, other, load = drives[index]
                if not (load.positive <= left.get(one, NOTHING) and load.negative <= left.get(other, NOTHING)):
                    break
                left[one] = left.get(one, NOTHING) - load
                left[other] = left.get(other, NOTHING) + load
            else:
                return order
        return None

    def test_first_order(self):
        drives = [("bo", "cy", Load(half=1)), ("ann", "bo", Load(half=2)), ("ann", "di", Load(half=1))]
        for stocks, wanted in [({"ann": Load(half=3)}, (1, 0, 2)), ({"ann": Load(half=2)}, None), ({}, None),
                               ({"ann": Load(half=3), "bo": Load(half=1)}, (0, 1, 2)),
                               ({"ann": Load(half=3), "zoe": Load(half=1)}, (1, 0, 2))]:
            for given in (drives, tuple(drives)):
                self.assertEqual(first_order(given, stocks), wanted)
            self.assertEqual(first_order(stocks=stocks, drives=drives), wanted)
        self.assertEqual((first_order([], {}), first_order((), {"a": Load(x=1)})), ((), ()))
        self.assertEqual(first_order([("a", "b", NOTHING)], {}), (0,))
        self.assertIsNone(first_order([("a", "b", Load(x=1))], {}))

    def test_both_parts_are_needed(self):
        drives = [("a", "b", Load(x=1, y=-1))]
        for stocks, wanted in [({"a": Load(x=1)}, None), ({"b": Load(y=1)}, None), ({"b": Load(x=1), "a": Load(y=1)}, None),
                               ({"a": Load(x=1), "b": Load(y=1)}, (0,)), ({"a": Load(x=2, y=9), "b": Load(y=5)}, (0,))]:
            self.assertEqual(first_order(drives, stocks), wanted)

    def test_the_first_one(self):
        """Not the one that comes from always doing the first drive that can be done."""
        drives = [("a", "b", Load(x=2)), ("a", "c", Load(x=1)), ("c", "a", Load(x=1))]
        self.assertEqual(first_order(drives, {"a": Load(x=2)}), (1, 2, 0))

    def test_by_all_orders(self):
        outcomes = {True: 0, False: 0}
        for seed in range(150):
            chosen = random.Random(seed)
            drives = [(*chosen.sample("abc", 2), Load.of({kind: chosen.randint(-2, 2) for kind in "xy"}))
                      for _ in range(chosen.randint(1, 5))]
            stocks = {house: Load.of({kind: chosen.randint(0, 3) for kind in "xy"}) for house in "abc"
                      if chosen.random() < 0.9}
            before = list(drives), dict(stocks)
            found = first_order(drives, stocks)
            self.assertEqual((drives, stocks), before)
            self.assertEqual(found, self.first(drives, stocks))
            outcomes[found is not None] += 1
        self.assertGreater(min(outcomes.values()), 20)

    def test_nine_and_ten(self):
        around = [(one, other, Load(x=1)) for one, other in zip(NINE, (*NINE[1:], NINE[0]))]
        self.assertEqual(first_order(around, {"f": Load(x=1)}), (5, 6, 7, 8, 0, 1, 2, 3, 4))
        self.assertEqual(first_order(around[::-1], {"a": Load(x=1)}), (8, 7, 6, 5, 4, 3, 2, 1, 0))
        self.assertIsNone(first_order(around, {}))
        # Whatever is done first, the last one never can be.
        self.assertIsNone(first_order([("a", "b", Load(x=1))] * 8 + [("c", "d", Load(x=1))], {"a": Load(x=8)}))
        for drives in (around + around[:1], [("a", "b", NOTHING)] * 10, [("a", "b", Load(x=1))] * 30):
            for stocks in ({}, {"a": Load(x=99)}):
                with self.assertRaises(TooMany) as caught:
                    first_order(drives, stocks)
                self.assertEqual(caught.exception.most, 9)


if __name__ == "__main__":
    unittest.main()
