"""Points 50 and 51: what is sure of balances, and what they can be worth."""

import itertools
import random
import unittest

from crateround.books import Book
from crateround.errors import InvalidSettling, TooMany, Unfair
from crateround.exchanges import Exchanges
from crateround.loads import Load
from crateround.notes import Note
from crateround.settlings import choices, doubtful, is_sure, parting, possible_balances, settled_balance
from crateround.settlings import settling_for, sure_exchanges, worths
from bookcase import BIG, agreed, note_of, said, seen
from helpers import NOTHING, any_values, difference_sum, halves, weight

HOUSES = ("ann", "bo", "cy", "di")
PAIRS = list(itertools.product(HOUSES, repeat=2))
# Under the third ones twice three halves are nothing, under the fourth ones a half is not, but two are.
RULES = (halves(), Exchanges(), Exchanges((Load(half=6), NOTHING), (Load(whole=2), Load(rack=1))),
         Exchanges((Load(half=2), NOTHING)), Exchanges((Load(half=1), NOTHING), (Load(whole=1), NOTHING)))


def doubts_of(book):
    """A dict from the numbers in doubt to their choices, by the statuses and standing notes."""
    found = {}
    for number in book.numbers():
        houses = [house for house in HOUSES if book.standing(house, number) is not None]
        if book.status(number) == "open":
            found[number] = (*houses, None)
        if book.status(number) == "unlike":
            found[number] = tuple(houses)
    return found


def all_settlings(book):
    doubts = doubts_of(book)
    return [dict(zip(doubts, chosen)) for chosen in itertools.product(*doubts.values())]


def exact(book, settling, one, other, day=None):
    """The balance under a settling, note by note."""
    found = book.balance(one, other, day, exact=True)
    for number, house in settling.items():
        note = book.standing(house, number)
        if note is not None and (day is None or note.day <= day):
            sign = {(one, other): 1, (other, one): -1}.get((note.giver, note.taker), 0)
            found = found + sign * note.load
    return found


def ordered(loads):
    """The loads in the order of the document, without duplicates."""
    kinds = sorted({kind for load in loads for kind in load.kinds})
    rows = sorted({tuple(load[kind] for kind in kinds) for load in loads})
    return [Load.of(dict(zip(kinds, row))) for row in rows]


def some_book(chosen, rules, many=5):
    book = Book(rules)
    for number in range(1, many + 1):
        one, other = chosen.sample(HOUSES[:3], 2)
        for house in chosen.choice([(one,), (one, other), (one, other)]):
            giver, taker = chosen.choice([(one, other), (one, other), (other, one)])
            kind = chosen.choice(["half", "whole", "rack", "cart"])
            book.say(house, Note(number, chosen.randint(1, 4), giver, taker, Load.of({kind: chosen.randint(1, 4)})))
    return book


def open_book(many, load=None, rules=None):
    """A book in which ann said so many notes to bo of the same load, and bo said nothing."""
    return said(*[("ann", note_of(number, load=load)) for number in range(1, many + 1)], rules=rules)


def in_doubt():
    """A book with numbers of each status, and of days before and after 5."""
    book = agreed(note_of(1, 5))
    book.say("bo", note_of(2, 6))
    for house, load in (("bo", Load(half=2)), ("ann", Load(whole=1))):
        book.say(house, note_of(3, 5, load=load))
    for house, day in (("ann", 5), ("cy", 6)):
        book.say(house, note_of(4, day, "cy", "ann"))
    book.say("ann", note_of(5))
    book.withdraw("ann", 5)
    return book


class ChoicesTest(unittest.TestCase):

    def test_choices(self):
        book = in_doubt()
        self.assertEqual([choices(book, number) for number in range(7)],
                         [(), (), ("bo", None), ("ann", "bo"), ("ann", "cy"), (), ()])
        self.assertEqual(choices(number=2, book=book), ("bo", None))
        self.assertIs(type(choices(book, 3)), tuple)

    def test_any_values(self):
        book = said(("ann", note_of()), ("ann", note_of(BIG)))
        for value in [*any_values(), Load(ann=1), halves(), note_of(), book, "1", (1,), [1], 1.0, -1, 10 ** 80]:
            if value is not True and type(value) is not float and value != 1:
                self.assertEqual(choices(book, value), ())
        self.assertEqual((choices(book, True), choices(book, 1), choices(book, BIG)),
                         ((), ("ann", None), ("ann", None)))
        self.assertEqual(choices(Book(halves()), 1), ())

    def test_settled_numbers_are_not_in_doubt(self):
        book = in_doubt()
        book.close(9, {2: None, 3: "ann", 4: "cy"})
        self.assertEqual([choices(book, number) for number in (2, 3, 4)], [(), (), ()])
        book.undo()
        self.assertEqual(choices(book, 4), ("ann", "cy"))


class SettledBalanceTest(unittest.TestCase):

    def test_settled_balance(self):
        book = in_doubt()
        rules = halves()
        settling = {2: "bo", 3: "ann", 4: "cy"}
        self.assertEqual(settled_balance(book, settling, "ann", "bo"), rules.plain(Load(half=6, whole=1)))
        self.assertEqual(settled_balance(book, {2: None, 3: "bo", 4: "cy"}, "ann", "bo"), rules.plain(Load(half=5)))
        self.assertEqual(settled_balance(book, settling, "bo", "ann"), rules.plain(Load(half=-6, whole=-1)))
        self.assertEqual(settled_balance(book, settling, "cy", "ann"), rules.plain(Load(half=3)))
        self.assertEqual(settled_balance(book, settling, "cy", "bo"), NOTHING)
        self.assertEqual(settled_balance(book, settling, "ann", "ann"), NOTHING)
        self.assertEqual(settled_balance(book, settling, "zoe", "ann"), NOTHING)
        self.assertEqual(settled_balance(agreed(note_of()), {}, "ann", "bo"), Load(half=1, whole=1))
        self.assertEqual(settled_balance(Book(halves()), {}, "ann", "bo"), NOTHING)

    def test_each_note_by_its_own_day(self):
        book = in_doubt()
        plain = halves().plain(Load(half=-3))
        for day, chosen, wanted in [(5, "ann", plain), (5, "cy", NOTHING), (6, "cy", plain), (None, "cy", plain),
                                    (4, "ann", NOTHING), (-BIG, "ann", NOTHING), (BIG, "cy", plain)]:
            settling = {2: None, 3: "ann", 4: chosen}
            self.assertEqual(settled_balance(book, settling, "ann", "cy", day), wanted)
            self.assertEqual(settled_balance(day=day, other="cy", one="ann", settling=settling, book=book), wanted)

    def check_refused(self, book, settling, value):
        before = seen(book)
        with self.assertRaises(InvalidSettling) as caught:
            settled_balance(book, settling, "ann", "bo")
        self.assertIs(type(caught.exception), InvalidSettling)
        self.assertEqual(caught.exception.value, value)
        self.assertEqual(seen(book), before)

    def test_values_that_are_no_settlings(self):
        book = in_doubt()
        others = [value for value in any_values() if value not in ({}, {1: "a"})]
        wrong = [*others, Load(ann=1), halves(), note_of(), book, ((2, "bo"),), {"2": "bo"}, {None: 1},
                 {True: None, 2: "bo", 3: "ann", 4: "cy"}, {2: "bo", 3: "ann", 4: "cy", "x": None}, {9: None, "x": 1}]
        for settling in wrong:
            with self.assertRaises(InvalidSettling) as caught:
                settled_balance(book, settling, "ann", "bo")
            self.assertIs(caught.exception.value, settling)

    def test_wrong_settlings(self):
        book = in_doubt()
        good = {2: "bo", 3: "ann", 4: "cy"}
        self.check_refused(book, {}, 2)
        for number, others in [(2, ["ann", "cy"]), (3, [None, "cy"]), (4, [None, "bo"])]:
            for other in [*others, *any_values()[1:], Load(bo=1), note_of(), ["bo"], b"bo"]:
                self.check_refused(book, {**good, number: other}, number)
            self.check_refused(book, {key: good[key] for key in good if key != number}, number)
        # The least number that is missing or wrong comes before one that is too much.
        self.check_refused(book, {**good, 1: "ann", -3: None, 4: None}, 4)
        self.check_refused(book, {9: None, 3: None, 4: "bo"}, 2)
        self.check_refused(book, {**good, 9: None, 1: "ann", 5: None}, 1)
        self.check_refused(book, {**good, -9: None, 0: None}, -9)
        self.check_refused(Book(halves()), {1: None}, 1)

    def test_all_numbers_in_doubt_are_wanted(self):
        """Those of later days and of other houses, too."""
        book = said(("ann", note_of(1, 50)), ("cy", note_of(2, 60, "cy", "di")))
        with self.assertRaises(InvalidSettling) as caught:
            settled_balance(book, {1: None}, "ann", "bo", 5)
        self.assertEqual(caught.exception.value, 2)


class SureTest(unittest.TestCase):

    def test_doubtful(self):
        book = in_doubt()
        # Number 3 is unlike, but both notes are equivalent.
        self.assertEqual(doubtful(book, "ann", "bo"), [2])
        self.assertEqual(doubtful(book, "bo", "ann", 6), [2])
        self.assertEqual(doubtful(book, "ann", "bo", 5), [])
        self.assertEqual(doubtful(book, "cy", "ann", 5), [4])
        # On day 6 both notes count, and are equal but for their days.
        self.assertEqual(doubtful(day=6, other="ann", one="cy", book=book), [])
        self.assertEqual((doubtful(book, "ann", "ann"), doubtful(book, "bo", "cy"), doubtful(book, "x", "y")),
                         ([], [], []))
        self.assertEqual(doubtful(Book(halves()), "ann", "bo"), [])

    def test_exchanged_houses(self):
        book = said(("ann", note_of(load=Load(half=1))), ("bo", note_of(giver="bo", taker="ann", load=Load(half=1))))
        self.assertEqual(doubtful(book, "ann", "bo"), [1])
        gone = said(("ann", note_of(load=Load(half=1))), ("bo", note_of(giver="bo", taker="ann", load=Load(half=1))),
                    rules=Exchanges((Load(half=2), NOTHING)))
        self.assertEqual(doubtful(gone, "ann", "bo"), [])
        self.assertIs(is_sure(gone, "ann", "bo"), True)

    def test_ascending(self):
        book = said(("ann", note_of(BIG)), ("ann", note_of(30)), ("ann", note_of(4)), ("ann", note_of(200)))
        self.assertEqual(doubtful(book, "ann", "bo"), [4, 30, 200, BIG])

    def test_is_sure(self):
        book = in_doubt()
        self.assertIs(is_sure(book, "ann", "bo"), False)
        self.assertIs(is_sure(book, "ann", "bo", 5), True)
        self.assertIs(is_sure(day=6, one="ann", other="cy", book=book), True)
        self.assertIs(is_sure(Book(halves()), "ann", "bo"), True)

    def test_parting(self):
        book = in_doubt()
        self.assertIsNone(parting(book, "ann", "bo", 5))
        self.assertIsNone(parting(Book(halves()), "ann", "bo"))
        found = parting(book=book, one="ann", other="bo", day=None)
        self.check_parting(book, found, "ann", "bo", None)
        self.check_parting(book, parting(book, "cy", "ann", 5), "cy", "ann", 5)

    def check_parting(self, book, found, one, other, day):
        self.assertIs(type(found), tuple)
        first, second = found
        for settling in found:
            self.assertIn(settling, all_settlings(book))
            self.assertEqual(list(settling), sorted(settling))
        self.assertEqual(len([number for number in first if first[number] != second[number]]), 1)
        self.assertFalse(book.exchanges.is_equivalent(exact(book, first, one, other, day),
                                                      exact(book, second, one, other, day)))

    def test_by_all_settlings(self):
        """Beside all settlings of books drawn by chance."""
        parted = 0
        for seed in range(40):
            chosen = random.Random(seed)
            book = some_book(chosen, RULES[seed % len(RULES)])
            for one, other in [*itertools.permutations(HOUSES[:3], 2), ("bo", "bo"), ("ann", "di")]:
                day = chosen.choice([None, 1, 2, 3, 4])
                settlings = all_settlings(book)
                plain = [book.exchanges.plain(exact(book, settling, one, other, day)) for settling in settlings]
                for settling, load in zip(settlings, plain):
                    self.assertEqual(settled_balance(book, settling, one, other, day), load)
                self.assertEqual(possible_balances(book, one, other, day), ordered(plain))
                sure = all(load == plain[0] for load in plain)
                self.assertIs(is_sure(book, one, other, day), sure)
                self.assertEqual(parting(book, one, other, day) is None, sure)
                if not sure:
                    parted += 1
                    self.check_parting(book, parting(book, one, other, day), one, other, day)
                self.check_doubtful(book, one, other, day)
        self.assertGreater(parted, 50)

    def check_doubtful(self, book, one, other, day):
        """A number is doubtful if changing it alone changes the balance, for some settling."""
        found = []
        for number, chosen in doubts_of(book).items():
            first = {key: houses[0] for key, houses in doubts_of(book).items()}
            loads = [exact(book, {**first, number: house}, one, other, day) for house in chosen]
            if not book.exchanges.is_equivalent(*loads):
                found.append(number)
        self.assertEqual(doubtful(book, one, other, day), found)


class PossibleBalancesTest(unittest.TestCase):

    def test_possible_balances(self):
        book = in_doubt()
        rules = halves()
        self.assertEqual(possible_balances(book, "ann", "bo"),
                         ordered([rules.plain(Load(half=5)), rules.plain(Load(half=8))]))
        self.assertEqual(possible_balances(day=5, other="bo", one="ann", book=book), [rules.plain(Load(half=5))])
        self.assertEqual(possible_balances(book, "ann", "ann"), [NOTHING])
        self.assertEqual(possible_balances(Book(rules), "ann", "bo"), [NOTHING])

    def test_order(self):
        """Numbers are compared as such, with their signs, kind by kind."""
        notes = [note_of(1, load=Load(b=9)), note_of(2, load=Load(b=100)), note_of(3, load=Load(a=2, c=5)),
                 note_of(4, giver="bo", taker="ann", load=Load(a=10, c=7))]
        book = said(*[("ann", note) for note in notes], rules=Exchanges())
        loads = [Load.total(*some) - Load.total(*back) for many in range(4)
                 for some in itertools.combinations([note.load for note in notes[:3]], many)
                 for back in ([], [notes[3].load])]
        for one, other, sign in (("ann", "bo", 1), ("bo", "ann", -1)):
            found = possible_balances(book, one, other)
            self.assertEqual(found, ordered([sign * load for load in loads]))
            self.assertEqual([load["a"] for load in found], sorted(load["a"] for load in found))

    def test_great_counts(self):
        book = said(*[("ann", note_of(number, load=Load(half=BIG - number, rack=number))) for number in range(1, 4)])
        self.assertEqual(len(possible_balances(book, "ann", "bo")), 8)

    def test_no_duplicates(self):
        self.assertEqual([load["half"] for load in possible_balances(open_book(4, rules=Exchanges()), "ann", "bo")],
                         [0, 3, 6, 9, 12])
        self.assertEqual(len(possible_balances(open_book(10, rules=RULES[2]), "ann", "bo")), 2)

    def test_ten_and_eleven(self):
        book = said(*[("ann", note_of(number, load=Load(half=2 ** number))) for number in range(1, 11)],
                    rules=Exchanges())
        for number in range(20, 40):
            book.say("cy", note_of(number, giver="cy"))
        found = possible_balances(book, "ann", "bo")
        self.assertEqual([load["half"] for load in found], list(range(0, 2 ** 11, 2)))
        # Later days, other houses and equivalent notes are in no doubt here.
        for number in range(50, 60):
            book.say("ann", note_of(number, 9))
        self.assertEqual(len(possible_balances(book, "ann", "bo", 5)), 2 ** 10)
        self.assertEqual(len(possible_balances(open_book(30, load=Load(half=6), rules=RULES[2]), "ann", "bo")), 1)
        for many in (11, 12, 40):
            book = open_book(many)
            before = seen(book)
            with self.assertRaises(TooMany) as caught:
                possible_balances(book, "bo", "ann")
            self.assertEqual((caught.exception.most, seen(book)), (10, before))

    def test_new_lists(self):
        book = in_doubt()
        possible_balances(book, "ann", "bo").clear()
        doubtful(book, "ann", "bo").clear()
        parting(book, "ann", "bo")[0].clear()
        self.assertEqual((len(possible_balances(book, "ann", "bo")), doubtful(book, "ann", "bo")), (2, [2]))
        self.assertEqual(len(parting(book, "ann", "bo")[0]), 3)


class SettlingForTest(unittest.TestCase):

    def check(self, book, wished, day=None):
        """There is a settling exactly if one of all does it."""
        def fits(settling):
            return all(book.exchanges.is_equivalent(exact(book, settling, *pair, day), load)
                       for pair, load in wished.items())
        before = dict(wished)
        found = settling_for(book, wished, day)
        self.assertEqual(wished, before)
        self.assertEqual(found is not None, any(map(fits, all_settlings(book))))
        if found is not None:
            self.assertIn(found, all_settlings(book))
            self.assertEqual(list(found), sorted(found))
            self.assertTrue(fits(found))
        return found

    def test_settling_for(self):
        book = in_doubt()
        self.assertEqual(self.check(book, {("ann", "bo"): Load(half=5)})[2], None)
        self.assertEqual(self.check(book, {("ann", "bo"): Load(half=8)})[2], "bo")
        self.assertEqual(self.check(book, {("bo", "ann"): Load(half=-8)})[2], "bo")
        self.assertIsNone(self.check(book, {("ann", "bo"): Load(half=7)}))
        self.assertIsNone(self.check(book, {("ann", "bo"): Load(half=5, cart=1)}))
        found = settling_for(day=5, wished={("ann", "cy"): NOTHING, ("ann", "bo"): Load(half=5)}, book=book)
        self.assertEqual(found[4], "cy")
        self.assertIsNone(self.check(book, {("ann", "bo"): Load(half=5), ("bo", "ann"): Load(half=-8)}))

    def test_nothing_wished(self):
        book = in_doubt()
        self.check(book, {})
        self.assertEqual(settling_for(Book(halves()), {}), {})
        self.assertEqual(settling_for(Book(halves()), {("ann", "bo"): NOTHING}), {})
        self.assertIsNone(settling_for(Book(halves()), {("ann", "bo"): Load(half=1)}))
        self.check(book, {("ann", "ann"): NOTHING})
        self.assertIsNone(self.check(book, {("ann", "ann"): Load(half=1)}))
        self.check(book, {("di", "zoe"): NOTHING})

    def test_the_order_of_what_is_wished_means_nothing(self):
        book = some_book(random.Random(3), halves(), 8)
        wished = {pair: exact(book, all_settlings(book)[-1], *pair) for pair in PAIRS}
        found = self.check(book, wished)
        self.assertEqual(settling_for(book, dict(reversed(wished.items()))), found)

    def test_by_all_settlings(self):
        outcomes = {True: 0, False: 0}
        for seed in range(80):
            chosen = random.Random(seed)
            book = some_book(chosen, RULES[seed % len(RULES)])
            day = chosen.choice([None, 2, 4])
            settlings = all_settlings(book)
            pairs = chosen.sample(PAIRS, chosen.randint(1, 4))
            wished = {pair: exact(book, chosen.choice(settlings), *pair, day)
                      + difference_sum(book.exchanges, [chosen.randint(-2, 2) for _ in book.exchanges.pairs])
                      + Load(half=chosen.choice([0, 0, 0, 1]))
                      for pair in pairs}
            outcomes[self.check(book, wished, day) is not None] += 1
        self.assertGreater(min(outcomes.values()), 10)

    def test_ten_and_eleven(self):
        book = Book(Exchanges())
        pairs = list(itertools.combinations(("ann", "bo", "cy"), 2))
        for number in range(1, 11):
            giver, taker = pairs[number % 3]
            book.say(giver, Note(number, 5, giver, taker, Load(half=2 ** number)))
        wanted = {number: None if number % 4 else pairs[number % 3][0] for number in range(1, 11)}
        wished = {pair: exact(book, wanted, *pair) for pair in pairs}
        self.assertEqual(settling_for(book, wished), wanted)
        book.say("ann", note_of(11, 9, load=Load(half=1)))
        self.assertEqual(settling_for(book, wished, 8), {**wanted, 11: settling_for(book, wished, 8)[11]})
        # Also if what is wished is so of no settling, and for fewer pairs.
        for wished in (wished, {pair: Load(cart=1) for pair in pairs}):
            with self.assertRaises(TooMany) as caught:
                settling_for(book, wished)
            self.assertEqual(caught.exception.most, 10)
        self.assertEqual(settling_for(book, {("bo", "cy"): NOTHING})[2], None)

    def test_numbers_are_counted_once(self):
        book = open_book(10)
        wished = {("ann", "bo"): Load(half=12), ("bo", "ann"): Load(half=-12)}
        found = settling_for(book, wished)
        self.assertEqual(list(found.values()).count("ann"), 4)


class SureExchangesTest(unittest.TestCase):

    def test_sure_exchanges(self):
        book = said(("ann", note_of(load=Load(half=3))), ("bo", note_of(load=Load(half=1, rack=1))))
        found = sure_exchanges(book, [("ann", "bo")])
        self.assertEqual(found, halves() | Exchanges((Load(half=2), Load(rack=1))))
        self.assertEqual(found.pairs, found.reduced().pairs)
        self.assertEqual(sure_exchanges(day=4, pairs=[("ann", "bo")], book=book).pairs, halves().reduced().pairs)
        for pairs in ([], (), [("ann", "ann")], (("bo", "cy"),)):
            self.assertEqual(sure_exchanges(book, pairs).pairs, halves().reduced().pairs)
        self.assertEqual(sure_exchanges(book, (("bo", "ann"), ("ann", "bo"))).pairs, found.pairs)
        self.assertEqual(sure_exchanges(Book(Exchanges()), [("ann", "bo")]).pairs, ())

    def test_open_numbers_are_worth_nothing_then(self):
        book = open_book(3, rules=Exchanges((Load(cart=1), Load(cart=1))))
        found = sure_exchanges(book, [("ann", "bo")])
        self.assertEqual((found.pairs, found.kinds), (((Load(half=3), NOTHING),), ("half",)))

    def test_more_kinds_and_greater_counts_than_are_passed(self):
        kinds = ["k" + letter for letter in "abcdefghijkl"]
        book = said(*[("ann", note_of(number, load=Load.of({kind: BIG}))) for number, kind in enumerate(kinds, 1)])
        found = sure_exchanges(book, [("ann", "bo")])
        self.assertEqual(len(found.pairs), len(kinds) + len(halves().reduced().pairs))
        self.assertTrue(found >= halves())

    def test_the_least_ones(self):
        """All balances are sure, and all rules under which they are hold these."""
        for seed in range(40):
            chosen = random.Random(seed)
            rules = RULES[seed % len(RULES)]
            book = some_book(chosen, rules, 7)
            day = chosen.choice([None, 2, 4])
            pairs = chosen.sample(PAIRS, chosen.randint(1, 4))
            found = sure_exchanges(book, pairs, day)
            self.assertEqual(found.pairs, found.reduced().pairs)
            self.assertTrue(found >= rules)
            like = Exchanges()
            for one, other in pairs:
                loads = [exact(book, settling, one, other, day) for settling in all_settlings(book)]
                for load in loads:
                    self.assertTrue(found.is_equivalent(load, loads[0]))
                    like = like | Exchanges(((load - loads[0]).positive, (load - loads[0]).negative))
            self.assertEqual(found, like | rules)


class WorthsTest(unittest.TestCase):
    WEIGHTS = {"half": 1, "whole": 2, "rack": 2}

    def check(self, book, weights, one, other, day=None):
        def worth(settling):
            load = exact(book, settling, one, other, day)
            return weight(load, {kind: weights.get(kind, 1) for kind in load.kinds})
        worths_of_all = [worth(settling) for settling in all_settlings(book)]
        found = worths(book, weights, one, other, day)
        self.assertIs(type(found), tuple)
        least, greatest, low, high = found
        self.assertEqual((least, greatest), (min(worths_of_all), max(worths_of_all)))
        for settling, wanted in ((low, least), (high, greatest)):
            self.assertIn(settling, all_settlings(book))
            self.assertEqual(list(settling), sorted(settling))
            self.assertEqual(worth(settling), wanted)
        return least, greatest

    def test_worths(self):
        book = in_doubt()
        self.assertEqual(self.check(book, self.WEIGHTS, "ann", "bo"), (5, 8))
        self.assertEqual(self.check(book, self.WEIGHTS, "bo", "ann"), (-8, -5))
        self.assertEqual(self.check(book, {"rack": 6, "half": 3, "whole": 6}, "ann", "cy", 5), (-9, 0))
        self.assertEqual(self.check(book, self.WEIGHTS, "ann", "cy", 6), (-3, -3))
        self.assertEqual(self.check(book, self.WEIGHTS, "ann", "ann"), (0, 0))
        self.assertEqual(worths(Book(halves()), self.WEIGHTS, "ann", "bo"), (0, 0, {}, {}))
        self.assertEqual(worths(day=5, other="bo", one="ann", weights=self.WEIGHTS, book=book)[:2], (5, 5))

    def test_kinds_without_weights_weigh_one(self):
        book = said(("ann", note_of(load=Load(cart=4, half=1))), rules=Exchanges((Load(a=1, b=1), Load(c=2))))
        self.assertEqual(self.check(book, {}, "ann", "bo"), (0, 5))
        self.assertEqual(self.check(book, {"cart": 10}, "ann", "bo"), (0, 41))
        self.assertEqual(self.check(book, {"half": BIG, "zz": 3}, "bo", "ann"), (-BIG - 4, 0))

    def test_signs(self):
        book = Book(Exchanges())
        for number, (giver, taker, count) in enumerate([("ann", "bo", 3), ("bo", "ann", 5), ("ann", "bo", 7)], 1):
            book.say("ann", Note(number, 1, giver, taker, Load(box=count)))
        book.say("bo", Note(3, 1, "bo", "ann", Load(box=1)))
        self.assertEqual(self.check(book, {}, "ann", "bo"), (-6, 10))

    def test_by_all_settlings(self):
        for seed in range(60):
            chosen = random.Random(seed)
            rules = [halves(), Exchanges()][seed % 2]
            book = some_book(chosen, rules)
            weights = {**self.WEIGHTS, "cart": chosen.randint(1, 9)}
            for one, other in itertools.permutations(HOUSES[:3], 2):
                self.check(book, weights, one, other, chosen.choice([None, 2, 4]))

    def test_unfair(self):
        rules = Exchanges((Load(a=1), Load(b=1)), (Load(a=2), Load(c=1)), (NOTHING, Load(d=1)))
        book = Book(rules)
        for weights, index in [({}, 1), ({"a": 2}, 0), ({"a": 2, "b": 2}, 1), ({"a": 1, "b": 1, "c": 2}, 2),
                               ({"c": 2, "d": 5}, 2), ({"zz": 7}, 1)]:
            before = dict(weights)
            with self.assertRaises(Unfair) as caught:
                worths(book, weights, "ann", "bo")
            self.assertEqual((caught.exception.index, weights), (index, before))
        book = Book(Exchanges((NOTHING, NOTHING), (Load(a=1), Load(a=1))))
        self.assertEqual(worths(book, {}, "ann", "bo")[:2], (0, 0))

    def test_many_notes(self):
        book = open_book(400, rules=Exchanges())
        self.assertEqual(worths(book, {}, "ann", "bo")[:2], (0, 1200))


class ValuesTest(unittest.TestCase):

    def test_equal_books(self):
        """Books with equal entries give equal results, whatever else was performed in them."""
        one = some_book(random.Random(5), halves(), 8)
        other = Book(halves())
        other.say("cy", note_of(6, giver="cy"))
        other.say("cy", note_of(7, giver="cy", taker="di"))
        other.undo(2)
        other.redo(1)
        other.undo(1)
        for _, house, note in one.history():
            other.say(house, note)
        self.assertEqual(one, other)
        for pair in PAIRS:
            found = [(doubtful(book, *pair), parting(book, *pair), possible_balances(book, *pair),
                      settling_for(book, {pair: one.balance(*pair)}), sure_exchanges(book, [pair]).pairs,
                      worths(book, WorthsTest.WEIGHTS, *pair)) for book in (one, other)]
            self.assertEqual(found[0], found[1])
            self.assertEqual(repr([list(each) for each in found[0][5][2:]]),
                             repr([list(each) for each in found[1][5][2:]]))

    def test_nothing_is_changed(self):
        book = in_doubt()
        before = seen(book)
        settling, weights, pairs = {4: "cy", 3: "ann", 2: None}, {"whole": 2, "rack": 2}, [("bo", "ann")]
        settled_balance(book, settling, "ann", "bo")
        worths(book, weights, "ann", "bo")
        sure_exchanges(book, pairs)
        parting(book, "ann", "bo")
        settling_for(book, {("ann", "bo"): Load(half=5)})
        self.assertEqual(list(settling.items()), [(4, "cy"), (3, "ann"), (2, None)])
        self.assertEqual((list(weights), pairs), (["whole", "rack"], [("bo", "ann")]))
        self.assertEqual(seen(book), before)


if __name__ == "__main__":
    unittest.main()
