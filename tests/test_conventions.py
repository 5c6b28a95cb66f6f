"""The conventions: point 2, for every call of the modules that have landed."""

import copy
import inspect
import unittest

from crateround.books import Book
from crateround import drives, rings, settlings
from crateround.counters import Counter
from crateround.drives import Yard, drive_notes, first_order
from crateround.errors import InvalidLoad, InvalidPair, InvalidText, InvalidWeighting, TooMany
from crateround.exchanges import Exchanges
from crateround.guards import CountedBook, GuardedBook, GuardedCountedBook
from crateround.loads import Load
from crateround.notes import Note
from bookcase import note_of
from helpers import NOTHING, any_values, check_dict, halves, load_pairs, samples

CLASS_METHODS = {
    Load: ["__init__", "of", "counts", "kinds", "positive", "negative", "__getitem__", "__contains__", "__len__",
           "__bool__", "__add__", "__sub__", "__neg__", "__mul__", "__rmul__", "__eq__", "__le__", "__lt__", "__ge__",
           "__gt__", "total", "text", "read"],
    Exchanges: ["__init__", "pairs", "kinds", "steps", "basis", "plain", "__call__", "is_equivalent", "__contains__",
                "order", "reduced", "structure", "class_count", "combination", "weighting", "is_combination",
                "is_weighting", "weightings", "weighed", "__le__", "__eq__", "__lt__", "__ge__", "__gt__", "__or__",
                "__and__", "separating", "fairness", "is_fairness", "covering", "is_covering", "loan", "is_loan"],
    Counter: ["__init__", "stocks", "stock_count", "uses_to", "is_use"],
    Note: ["__init__", "__eq__"],
    Book: ["__init__", "say", "withdraw", "status", "standing", "numbers", "exchanges", "houses", "balance", "net",
           "balances", "close", "closed", "history", "undo", "redo", "at", "attempt", "explore", "depth", "__eq__",
           "written", "read"],
    GuardedBook: ["__init__", "__eq__", "limit", "set_limit", "weights"],
    CountedBook: ["__init__", "counts"],
    GuardedCountedBook: ["__init__"],
    Yard: ["__init__", "nets", "roads", "counters", "is_even", "stuck", "fewest", "drives", "parts"],
}
MODULES = {Load: "loads", Exchanges: "exchanges", Counter: "counters", Note: "notes", Book: "books",
           GuardedBook: "guards", CountedBook: "guards", GuardedCountedBook: "guards", Yard: "drives"}
FUNCTIONS = {
    settlings: {
        "choices": "book number", "settled_balance": "book settling one other day", "doubtful": "book one other day",
        "is_sure": "book one other day", "parting": "book one other day", "possible_balances": "book one other day",
        "settling_for": "book wished day", "sure_exchanges": "book pairs day", "worths": "book weights one other day"},
    rings: {"net_loads": "exchanges debts", "rings": "exchanges debts", "after_rings": "exchanges debts rings"},
    drives: {"drive_notes": "drives day number", "first_order": "drives stocks"},
}


def all_calls(rules, one, other):
    """What every method of the rules returns, each called with its arguments by name."""
    stock, goal = one.positive + other.negative, other.positive + one.negative
    return [
        rules.pairs, rules.kinds, rules.steps, rules.basis(), rules.plain(load=one), rules(load=one),
        rules.is_equivalent(one=one, other=other), one in rules, rules.order(load=one), rules.reduced().pairs,
        rules.structure(), rules.class_count(), rules.combination(one=one, other=other),
        rules.weighting(one=one, other=other), rules.is_combination(one=one, other=other, value=()),
        rules.is_weighting(one=one, other=other, value=({}, 0)), rules.weightings(),
        (rules | halves()).pairs, (rules & halves()).pairs, rules.separating(other=halves()), rules.fairness(),
        rules.is_fairness(value=("fair", {})), rules.covering(one=one, other=other),
        rules.is_covering(one=one, other=other, value=("less", {})), rules.loan(one=stock, other=goal),
        rules.is_loan(one=stock, other=goal, value=(NOTHING, [])),
    ]


def by_position(rules, one, other):
    stock, goal = one.positive + other.negative, other.positive + one.negative
    return [
        rules.pairs, rules.kinds, rules.steps, rules.basis(), rules.plain(one), rules(one),
        rules.is_equivalent(one, other), one in rules, rules.order(one), rules.reduced().pairs,
        rules.structure(), rules.class_count(), rules.combination(one, other),
        rules.weighting(one, other), rules.is_combination(one, other, ()),
        rules.is_weighting(one, other, ({}, 0)), rules.weightings(),
        (rules | halves()).pairs, (rules & halves()).pairs, rules.separating(halves()), rules.fairness(),
        rules.is_fairness(("fair", {})), rules.covering(one, other),
        rules.is_covering(one, other, ("less", {})), rules.loan(stock, goal),
        rules.is_loan(stock, goal, (NOTHING, [])),
    ]


def dicts_in(value):
    if isinstance(value, dict):
        yield value
    if isinstance(value, (tuple, list)):
        for entry in value:
            yield from dicts_in(entry)


DEBTS = {("bo", "cy"): Load(whole=-1, half=3), ("ann", "cy"): Load(half=-1), ("ann", "bo"): Load(half=1)}


def doubtful_book(rules=None):
    """A book with numbers in doubt that were not said in their order."""
    book = Book(rules or halves())
    for number in (7, 2, 5):
        book.say("ann", note_of(number))
    return book


def len_of(book):
    return len(book.history())


class ConventionsTest(unittest.TestCase):

    def test_methods_are_defined_in_their_classes(self):
        for cls, names in CLASS_METHODS.items():
            for name in names:
                self.assertIn(name, vars(cls), cls)
            self.assertEqual(cls.__module__, "crateround." + MODULES[cls])

    def test_functions_are_defined_in_their_files(self):
        for module, functions in FUNCTIONS.items():
            for name, names in functions.items():
                function = getattr(module, name)
                self.assertEqual(function.__module__, module.__name__)
                parameters = inspect.signature(function).parameters
                self.assertEqual(list(parameters), names.split())
                for parameter in parameters.values():
                    self.assertEqual(parameter.default, None if parameter.name == "day" and module is settlings
                                     else inspect.Parameter.empty)

    def test_equal_calls_return_equal_results(self):
        """By name and by position, again, and of rules that were made anew with equal pairs."""
        for number, rules in enumerate(samples()):
            again = Exchanges(*[(Load(**left.counts), Load(**right.counts)) for left, right in rules.pairs])
            for one, other in load_pairs(rules, number)[:5]:
                first = all_calls(rules, one, other)
                self.assertEqual(first, all_calls(rules, one, other))
                self.assertEqual(first, by_position(rules, one, other))
                same = Load.of(dict(reversed(list(one.counts.items()))))
                self.assertEqual(first, all_calls(again, same, other))

    def test_returned_dicts_are_ascending(self):
        for number, rules in enumerate(samples()):
            for one, other in load_pairs(rules, number)[:5]:
                for value in dicts_in(all_calls(rules, one, other)):
                    check_dict(self, value)

    def test_returned_values_are_new(self):
        rules = halves()
        one, other = Load(whole=1), Load(rack=1)
        before = copy.deepcopy(all_calls(rules, one, other))
        for value in all_calls(rules, one, other):
            for found in dicts_in(value):
                found.clear()
                found["x"] = 1
            if isinstance(value, list):
                value.clear()
        rules.loan(Load(half=2), Load(whole=1))[1].append(None)
        one.counts.clear()
        self.assertEqual(all_calls(rules, one, other), before)
        self.assertEqual(rules.loan(Load(half=2), Load(whole=1))[1], [(0, 1)])

    def test_nothing_that_is_passed_is_changed(self):
        rules = halves()
        pairs = (rules.pairs[1], rules.pairs[0])
        counts, weights = {"tray": 0, "box": 3}, {"b": 2, "a": 1}
        uses, fair = [(0, 2), (1, 1)], {"whole": 2, "half": 1, "rack": 2}
        passed = [pairs, counts, weights, uses, fair]
        before = copy.deepcopy(passed)
        Exchanges(*pairs), Load.of(counts), Load(**counts), Exchanges.weighed(weights, 0)
        rules.is_loan(Load(half=4), Load(rack=2), (NOTHING, uses))
        rules.is_fairness(("fair", fair))
        rules.is_weighting(Load(half=1), Load(rack=1), (fair, 0))
        rules.is_covering(Load(half=1), Load(rack=1), ("less", fair))
        self.assertEqual(passed, before)
        self.assertEqual([list(value) for value in passed[1:]], [list(value) for value in before[1:]])
        one, other = Load(half=7, cart=-1), Load(rack=3, box=2)
        all_calls(rules, one, other)
        one + other, one - other, -one, 3 * one, one <= other, Load.total(one, other)
        self.assertEqual([one.text(), other.text()], ["cart -1 half 7", "box 2 rack 3"])
        self.assertEqual(rules.pairs, halves().pairs)

    def test_objects_copy_what_they_keep(self):
        weights = {"half": 1, "whole": 2}
        rules = Exchanges.weighed(weights, 0)
        weights["whole"] = 3
        self.assertEqual(rules.pairs, ((Load(half=2), Load(whole=1)),))
        pairs = [(Load(half=2), Load(whole=1))]
        rules = Exchanges(*pairs)
        pairs.append((Load(rack=1), NOTHING))
        self.assertEqual(len(rules.pairs), 1)

    def test_is_methods_return_true_or_false(self):
        rules = halves()
        one, other = Load(half=4), Load(rack=2)
        good = {"half": 1, "rack": 2, "whole": 2}
        for found in [rules.is_equivalent(one, other), rules.is_combination(one, other, (2, 1)),
                      rules.is_weighting(one, Load(), (good, 0)), rules.is_fairness(("fair", good)),
                      rules.is_covering(one, other, ("covers", 1, (-2, -1))),
                      rules.is_loan(one, other, (NOTHING, [(0, 2), (1, 1)])), one - other in rules]:
            self.assertIs(found, True)

    def test_books_by_position_and_by_name(self):
        """Equal calls on books that are equal return equal results, and change no argument."""
        note = Note(number=1, day=5, giver="ann", taker="bo", load=Load(half=3))
        one, other = Book(halves()), Book(exchanges=halves())
        settling = {2: None}
        for book in (one, other):
            book.say("bo", Note(2, 4, "bo", "cy", Load(rack=1)))
        self.assertEqual([one.say("ann", note), one.say("bo", note), one.close(4, settling), one.withdraw("ann", 1),
                          one.undo(2), one.redo(1)], [None] * 6)
        self.assertEqual([other.say(note=note, house="ann"), other.say(house="bo", note=note),
                          other.close(settling=settling, day=4), other.withdraw(number=1, house="ann"),
                          other.undo(count=2), other.redo(count=1)], [None] * 6)
        self.assertEqual((settling, note), ({2: None}, Note(1, 5, "ann", "bo", Load(half=3))))
        self.assertEqual(one, other)
        self.assertEqual(
            [one.status(1), one.standing("bo", 1), one.balance("bo", "ann", 5), one.net("ann", 5), one.balances(5),
             one.at(2), one.attempt(len_of), one.explore(len_of), one.balance("ann", "bo", 4, exact=True),
             one.net("bo", exact=True)],
            [other.status(number=1), other.standing(number=1, house="bo"), other.balance(day=5, other="ann", one="bo"),
             other.net(day=5, house="ann"), other.balances(day=5), other.at(count=2), other.attempt(action=len_of),
             other.explore(action=len_of), other.balance("ann", exact=True, day=4, other="bo"),
             other.net(exact=True, house="bo")])
        self.assertEqual(one.at(3), Book.read(one.at(3).written(), halves()))

    def test_what_is_returned_last(self):
        """Of settlings, rings, yards and guarded books: ascending dicts, new ones each time, equal ones for equal calls."""
        calls = [lambda: settlings.parting(doubtful_book(), "ann", "bo"),
                 lambda: settlings.settling_for(doubtful_book(), {("ann", "bo"): Load(half=3)}),
                 lambda: settlings.worths(doubtful_book(), {"whole": 2, "rack": 2}, "ann", "bo"),
                 lambda: rings.net_loads(halves(), dict(DEBTS)), lambda: rings.after_rings(halves(), dict(DEBTS), []),
                 lambda: Yard(halves(), {"bo": NOTHING, "ann": NOTHING}, [("bo", "ann")]).nets,
                 lambda: GuardedBook(halves(), {"whole": 2, "half": 1, "rack": 2}, 3).weights,
                 lambda: CountedBook(halves()).counts]
        for call in calls:
            found = list(dicts_in(call()))
            self.assertTrue(found)
            for value in found:
                self.assertEqual(list(value), sorted(value))
            self.assertEqual([list(value.items()) for value in dicts_in(call())], [list(value.items()) for value in found])

    def test_returned_objects_may_be_changed(self):
        book, yard = doubtful_book(), Yard(halves(), {"ann": Load(half=1), "bo": Load(half=-1)}, [("bo", "ann")], ["bo"])
        guarded = GuardedCountedBook(halves(), {"whole": 2, "rack": 2}, 3)
        def told():
            return [settlings.doubtful(book, "ann", "bo"), settlings.possible_balances(book, "ann", "bo"),
                    settlings.parting(book, "ann", "bo"), rings.rings(halves(), DEBTS), rings.net_loads(halves(), DEBTS),
                    yard.nets, yard.drives(), yard.parts(), guarded.weights, guarded.counts, drive_notes(yard.drives(), 1, 1)]
        before = copy.deepcopy(told())
        for value in told():
            for found in dicts_in(value):
                found.clear()
            if isinstance(value, list):
                value.clear()
        self.assertEqual(told(), before)

    def test_equivalence_settles_what_is_doubtful(self):
        """Point 3: either the balance is the same whatever becomes of the notes, or two settlings part it."""
        for rules, sure in [(Exchanges(), False), (halves(), False), (Exchanges((Load(half=3), NOTHING)), True)]:
            book = doubtful_book(rules)
            self.assertIs(settlings.is_sure(book, "ann", "bo"), sure)
            self.assertIs(settlings.parting(book, "ann", "bo") is None, sure)
            self.assertIs(settlings.is_sure(Book(settlings.sure_exchanges(book, [("ann", "bo")])), "ann", "bo"), True)

    def test_any_value_is_examined(self):
        """Functions that begin with is_ raise nothing and return True or False."""
        rules, yard = halves(), Yard(halves(), {"ann": NOTHING}, [])
        one = Load(half=2)
        for value in [*any_values(), one, rules, yard, doubtful_book(), note_of(), Counter(rules, one)]:
            for found in [rules.is_combination(one, one, value), rules.is_weighting(one, one, value),
                          rules.is_fairness(value), rules.is_covering(one, one, value), rules.is_loan(one, one, value),
                          Counter(rules, one).is_use(one, value), yard.is_even(value), value in rules]:
                self.assertIs(type(found), bool)

    def test_errors_are_raised_in_the_order_described(self):
        with self.assertRaises(InvalidPair):
            Exchanges(*[(Load.of({kind: 1}), NOTHING) for kind in "abcdefghi"], ())
        with self.assertRaises(TooMany) as caught:
            Exchanges(*[(Load.of({kind: 1}), NOTHING) for kind in "abcdefghi"])
        self.assertEqual(caught.exception.most, 8)
        with self.assertRaises(InvalidWeighting) as caught:
            Exchanges.weighed(None, 1)
        self.assertIsNone(caught.exception.value)
        value = {"B": None, 1: 1}
        with self.assertRaises(InvalidLoad) as caught:
            Load.of(value)
        self.assertIs(caught.exception.value, value)
        with self.assertRaises(InvalidText):
            Load.read(None)

    def test_a_call_that_raises_changes_nothing(self):
        rules = halves()
        wrong = Load(half=-1)
        for call in (rules.loan, lambda one, other: rules.is_loan(one, other, (NOTHING, []))):
            with self.assertRaises(InvalidLoad) as caught:
                call(wrong, Load())
            self.assertIs(caught.exception.value, wrong)
        self.assertEqual(wrong.counts, {"half": -1})
        self.assertEqual(rules.pairs, halves().pairs)


if __name__ == "__main__":
    unittest.main()
