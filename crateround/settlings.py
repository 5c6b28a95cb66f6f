"""What is sure of the balances of a book, whatever becomes of the numbers in doubt.

Each number in doubt has two choices, which add their own load to a balance: its shares.
"""

from crateround.checks import ascending
from crateround.errors import TooMany, Unfair
from crateround.exchanges import rules_of_rows
from crateround.ledgers import check_settling
from crateround.loads import Load
from crateround.notes import sum_between, up_to
from crateround.rows import ranked_loads, row_of, worth_of

MOST_DOUBTFUL = 10


def choices(book, number):
    """The choices of a number in doubt, () for any other value."""
    return book.choices_of(number)


def settled_balance(book, settling, one, other, day=None):
    """The plain balance under a settling."""
    check_settling(settling, {number: tuple(chosen) for number, chosen in book.doubts().items()})
    return book.exchanges.plain(exact_balance(book, settling, one, other, day))


def doubtful(book, one, other, day=None):
    """The numbers in doubt whose choices do not all lead to equivalent balances, ascending."""
    steps = steps_between(book, one, other, day)
    return [number for number, step in steps.items() if step not in book.exchanges]


def is_sure(book, one, other, day=None):
    """Whether the balance is equivalent under all settlings."""
    return not doubtful(book, one, other, day)


def parting(book, one, other, day=None):
    """Two settlings that differ at one number only and part the balance, None if it is sure."""
    numbers = doubtful(book, one, other, day)
    if not numbers:
        return None
    return settling_with(book, []), settling_with(book, numbers[:1])


def possible_balances(book, one, other, day=None):
    """The different plain balances under all settlings, ordered by their counts."""
    steps = steps_between(book, one, other, day)
    numbers = doubtful(book, one, other, day)
    check_doubtful(numbers)
    loads = [settled_balance(book, settling_with(book, []), one, other, day)]
    for number in numbers:
        changed = [book.exchanges.plain(load + steps[number]) for load in loads]
        loads = ranked_loads([*loads, *changed])
    return loads


def settling_for(book, wished, day=None):
    """A settling under which each balance is equivalent to the load wished for it, None if there is none."""
    found = {}
    for one, other in wished:
        for number in doubtful(book, one, other, day):
            found[number] = True
    numbers = sorted(found, key=int)
    check_doubtful(numbers)
    first = settling_with(book, [])
    lacking = {(one, other): load - exact_balance(book, first, one, other, day)
               for (one, other), load in wished.items()}
    steps = {(one, other): steps_between(book, one, other, day) for one, other in wished}
    for changed in sublists(numbers):
        if all_even(book.exchanges, lacking, steps, changed):
            return settling_with(book, changed)
    return None


def sure_exchanges(book, pairs, day=None):
    """The least rules, reduced, that hold all rules of the book and make these balances sure."""
    loads = book.exchanges.basis()
    for one, other in pairs:
        steps = steps_between(book, one, other, day)
        loads.extend([step for step in steps.values() if step])
    kinds = ascending([kind for load in loads for kind in load.kinds])
    return rules_of_rows(kinds, [row_of(load, kinds) for load in loads])


def worths(book, weights, one, other, day=None):
    """(least, greatest, settling, settling): what the balance can weigh, and what leads to it."""
    check_fair(book.exchanges, weights)
    steps = steps_between(book, one, other, day)
    lower = [number for number, step in steps.items() if worth_of(step, weights) < 0]
    higher = [number for number, step in steps.items() if worth_of(step, weights) > 0]
    found = [settling_with(book, changed) for changed in (lower, higher)]
    least, greatest = [worth_of(exact_balance(book, settling, one, other, day), weights) for settling in found]
    return least, greatest, found[0], found[1]


def check_fair(exchanges, weights):
    """Raise Unfair with the first pair whose sides do not weigh the same."""
    for index, (left, right) in enumerate(exchanges.pairs):
        if worth_of(left, weights) != worth_of(right, weights):
            raise Unfair(index)


def check_doubtful(numbers):
    """Raise TooMany if there are more numbers than may be doubtful."""
    if len(numbers) > MOST_DOUBTFUL:
        raise TooMany(MOST_DOUBTFUL)


def settling_with(book, changed):
    """The settling with the second choice for these numbers, and the first one for all others."""
    found = {}
    changes = {number: True for number in changed}
    for number, chosen in book.doubts().items():
        first, second = list(chosen)
        found[number] = second if number in changes else first
    return found


def shares_between(book, one, other, day):
    """A dict from the numbers in doubt to dicts from their choices to what these add to the balance."""
    return {number: {house: sum_between(up_to(notes, day), one, other) for house, notes in chosen.items()}
            for number, chosen in book.doubts().items()}


def steps_between(book, one, other, day):
    """A dict from the numbers in doubt to what the balance gains by the second choice instead of the first."""
    found = {}
    for number, shares in shares_between(book, one, other, day).items():
        first, second = list(shares.values())
        found[number] = second - first
    return found


def exact_balance(book, settling, one, other, day):
    """The sum of the loads that count for the balance under a settling."""
    shares = shares_between(book, one, other, day)
    loads = [shares[number][settling[number]] for number in shares]
    return Load.total(book.balance(one, other, day, exact=True), *loads)


def sublists(numbers):
    """All lists of some of the numbers."""
    return [[number for place, number in enumerate(numbers) if mask >> place & 1]
            for mask in range(1 << len(numbers))]


def all_even(exchanges, lacking, steps, changed):
    """Whether each pair gets what it lacks from these numbers."""
    for pair, load in lacking.items():
        gained = [steps[pair][number] for number in changed]
        if load - Load.total(*gained) not in exchanges:
            return False
    return True
