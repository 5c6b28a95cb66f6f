"""Exchange rules, and which loads are equivalent under them."""

from crateround.checks import ascending, is_integer, is_integers, is_weights, is_weights_of
from crateround.errors import InvalidLoad, InvalidPair, InvalidWeighting, TooMany
from crateround.farkas import solve
from crateround.forms import is_loan_form, is_pair, is_stock, is_weighting_form
from crateround.lattices import hermite, lowest, multiples, order_of, pivot, residue
from crateround.lattices import shared, smith, weighing_nothing
from crateround.loads import Load
from crateround.rows import kinds_of_pairs, load_of, row_of, weight_of, weights_of

MOST_PAIRS = 8
MOST_KINDS = 6
MOST_WEIGHT = 999999
MOST_MODULUS = 10 ** 6


class Exchanges:
    """The rules with these pairs: either side of a pair may be given for the other one."""

    def __init__(self, *pairs):
        for index, pair in enumerate(pairs):
            if not is_pair(pair):
                raise InvalidPair(index)
        if len(pairs) > MOST_PAIRS:
            raise TooMany(MOST_PAIRS)
        kinds = kinds_of_pairs(pairs)
        if len(kinds) > MOST_KINDS:
            raise TooMany(MOST_KINDS)
        self._pairs = pairs
        self._kinds = kinds
        # The basis in Hermite form of the differences, over the kinds.
        self._basis = hermite([row_of(left - right, kinds) for left, right in pairs])

    @classmethod
    def weighed(cls, weights, modulus):
        """The rules under which loads are equivalent to nothing exactly if they weigh 0."""
        if not is_weights(weights) or not 1 <= len(weights) <= MOST_KINDS:
            raise InvalidWeighting(weights)
        if not all([-MOST_WEIGHT <= weights[kind] <= MOST_WEIGHT for kind in weights]):
            raise InvalidWeighting(weights)
        if not is_integer(modulus) or (modulus != 0 and not 2 <= modulus <= MOST_MODULUS):
            raise InvalidWeighting(modulus)
        kinds = ascending(weights)
        return rules_of_rows(kinds, weighing_nothing([weights[kind] for kind in kinds], modulus))

    @property
    def pairs(self):
        """The tuple of the pairs."""
        return self._pairs

    @property
    def kinds(self):
        """The kinds that occur in pairs, ascending."""
        return self._kinds

    @property
    def steps(self):
        """A dict from the kinds with a step to their steps."""
        columns = [pivot(row) for row in self._basis]
        return {self._kinds[column]: row[column] for column, row in zip(columns, self._basis)}

    def basis(self):
        """The list of the basic loads, in ascending order of their kinds."""
        return [load_of(row, self._kinds) for row in self._basis]

    def plain(self, load):
        """The equivalent load with counts from 0 to step - 1 of the kinds with a step."""
        counts = dict(load.counts)
        rest = residue(row_of(load, self._kinds), self._basis)
        for kind, count in zip(self._kinds, rest):
            counts[kind] = count
        return Load.of(counts)

    def __call__(self, load):
        return self.plain(load)

    def is_equivalent(self, one, other):
        """Whether the loads are equivalent."""
        return not self.plain(one - other)

    def __contains__(self, x):
        return isinstance(x, Load) and not self.plain(x)

    def order(self, load):
        """The least number from 1 on of such loads that is equivalent to nothing, or None."""
        if self._other_kinds(load):
            return None
        return order_of(row_of(load, self._kinds), self._basis)

    def reduced(self):
        """Rules with the same equivalent loads and as few pairs as possible."""
        return rules_of_rows(self._kinds, self._basis)

    def structure(self):
        """(factors, free): how many classes of equivalent loads there are, and how they add up."""
        scales, free = smith(self._basis, len(self._kinds))
        return tuple([factor for factor, _ in scales if factor > 1]), len(free)

    def class_count(self):
        """The number of classes of equivalent loads, None if it has no end."""
        factors, free = self.structure()
        if free:
            return None
        count = 1
        for factor in factors:
            count = count * factor
        return count

    def combination(self, one, other):
        """Multiples of the differences that add up to one - other, None if there are none."""
        difference = one - other
        if self._other_kinds(difference):
            return None
        found = multiples(row_of(difference, self._kinds), self._differences())
        return None if found is None else tuple(found)

    def is_combination(self, one, other, value):
        """Whether any value is a combination whose sum is one - other."""
        return is_integers(value, len(self._pairs)) and self._sum(value) == one - other

    def weighting(self, one, other):
        """A weighting that separates the loads, None if they are equivalent."""
        difference = one - other
        others = self._other_kinds(difference)
        if others:
            return {others[0]: 1}, 0
        for weights, modulus in self.weightings():
            if weight_of(difference, weights, modulus) != 0:
                return weights, modulus
        return None

    def is_weighting(self, one, other, value):
        """Whether any value is a weighting that separates the loads."""
        if not is_weighting_form(value):
            return False
        weights, modulus = value
        return self._is_valid(weights, modulus) and weight_of(one - other, weights, modulus) != 0

    def weightings(self):
        """As few weightings as possible that separate all loads that are not equivalent."""
        scales, free = smith(self._basis, len(self._kinds))
        found = []
        for factor, row in scales:
            if factor > 1:
                found.append((weights_of([int(entry) % factor for entry in row], self._kinds), factor))
        for row in free:
            found.append((weights_of(row, self._kinds), 0))
        return found

    def __le__(self, other):
        if not isinstance(other, Exchanges):
            return NotImplemented
        return all([load in other for load in self.basis()])

    def __lt__(self, other):
        if not isinstance(other, Exchanges):
            return NotImplemented
        return self <= other and self != other

    def __ge__(self, other):
        if not isinstance(other, Exchanges):
            return NotImplemented
        return other <= self

    def __gt__(self, other):
        if not isinstance(other, Exchanges):
            return NotImplemented
        return other < self

    def __eq__(self, other):
        # The Hermite form is the same for the same equivalent loads.
        return isinstance(other, Exchanges) and self.basis() == other.basis()

    def __or__(self, other):
        if not isinstance(other, Exchanges):
            return NotImplemented
        kinds = ascending([*self._kinds, *other._kinds])
        return rules_of_rows(kinds, [*self._rows(kinds), *other._rows(kinds)])

    def __and__(self, other):
        if not isinstance(other, Exchanges):
            return NotImplemented
        kinds = ascending([*self._kinds, *other._kinds])
        return rules_of_rows(kinds, shared(self._rows(kinds), other._rows(kinds), len(kinds)))

    def separating(self, other):
        """A load that is equivalent to nothing by exactly one of both rules, or None."""
        for load in self.basis():
            if load not in other:
                return load
        for load in other.basis():
            if load not in self:
                return load
        return None

    def fairness(self):
        """("fair", weights) or ("gift", combination)."""
        rows = self._differences()
        # Weights from 1 on are sought as 1 and something from 0 on.
        goals = [-sum(row) for row in rows]
        values, scale, factors = solve(rows, goals, len(self._kinds))
        if factors is not None:
            return "gift", tuple(lowest(factors))
        return "fair", dict(zip(self._kinds, lowest([scale + value for value in values])))

    def is_fairness(self, value):
        """Whether any value shows that the rules are fair, or that they are not."""
        if not isinstance(value, tuple) or len(value) != 2:
            return False
        word, shown = value
        if word == "fair":
            return is_weights_of(shown, self._kinds, 1) and self._is_valid(shown, 0)
        if word == "gift" and is_integers(shown, len(self._pairs)):
            return self._sum(shown) > Load()
        return False

    def covering(self, one, other):
        """("covers", n, combination) or ("less", weights)."""
        difference = one - other
        kinds = self._kinds_with(one, other)
        for kind in self._other_kinds(difference):
            if difference[kind] < 0:
                return "less", {each: 1 if each == kind else 0 for each in kinds}
        # The weights are sought by which the difference weighs -1, over a scale.
        rows = [*self._differences(), row_of(-difference, self._kinds)]
        goals = [*[0 for _ in self._pairs], 1]
        values, _, factors = solve(rows, goals, len(self._kinds))
        if factors is not None:
            *combination, number = lowest(factors)
            return "covers", -number, tuple(combination)
        weights = dict(zip(self._kinds, lowest(values)))
        return "less", {kind: weights.get(kind, 0) for kind in kinds}

    def is_covering(self, one, other, value):
        """Whether any value shows that one covers other, or that it does not."""
        if not isinstance(value, tuple) or len(value) < 2:
            return False
        word, *shown = value
        if word == "covers" and len(shown) == 2:
            return self._shows_cover(one - other, shown[0], shown[1])
        if word == "less" and len(shown) == 1:
            kinds = self._kinds_with(one, other)
            return is_weights_of(shown[0], kinds, 0) and self._shows_less(one - other, shown[0])
        return False

    def loan(self, one, other):
        """(load, uses): what must be borrowed to exchange one for other, None if it cannot be."""
        check_stocks(one, other)
        combination = self.combination(one, other)
        if combination is None:
            return None
        uses = [(index, times) for index, times in enumerate(combination) if times != 0]
        borrowed = Load()
        hand = one
        for index, times in uses:
            given, taken = self._sides(index, times)
            lacking = (given - hand).positive
            borrowed = borrowed + lacking
            hand = hand + lacking - given + taken
        return borrowed, uses

    def is_loan(self, one, other, value):
        """Whether any value is a loan with which one can be exchanged for other."""
        check_stocks(one, other)
        if not is_loan_form(value, len(self._pairs)):
            return False
        load, uses = value
        hand = one + load
        for index, times in uses:
            given, taken = self._sides(index, times)
            if not given <= hand:
                return False
            hand = hand - given + taken
        return hand == other + load

    def _shows_cover(self, difference, number, combination):
        """Whether so many differences and the sum of any such combination have no negative count."""
        if not is_integer(number) or number < 1 or not is_integers(combination, len(self._pairs)):
            return False
        return is_stock(number * difference + self._sum(combination))

    def _shows_less(self, difference, weights):
        """Whether the weights are valid, and the difference weighs less than nothing."""
        return self._is_valid(weights, 0) and weight_of(difference, weights, 0) < 0

    def _sides(self, index, times):
        """What so many uses of a pair give away, and what they bring."""
        left, right = self._pairs[index]
        return (times * left, times * right) if times > 0 else (-times * right, -times * left)

    def _differences(self):
        """The differences of the pairs, as rows over the kinds."""
        return [row_of(left - right, self._kinds) for left, right in self._pairs]

    def _rows(self, kinds):
        """The basic loads, as rows over these kinds."""
        return [row_of(load, kinds) for load in self.basis()]

    def _other_kinds(self, load):
        """The kinds of the load that occur in no pair."""
        return [kind for kind in load.kinds if kind not in self._kinds]

    def _kinds_with(self, one, other):
        """The kinds of the rules and of both loads, ascending."""
        return ascending([*self._kinds, *one.kinds, *other.kinds])

    def _sum(self, combination):
        """The sum of a combination."""
        parts = [times * (left - right) for times, (left, right) in zip(combination, self._pairs)]
        return Load.total(*parts)

    def _is_valid(self, weights, modulus):
        """Whether a weighting is valid for the rules."""
        return all([weight_of(left - right, weights, modulus) == 0 for left, right in self._pairs])


def check_stocks(one, other):
    """Raise InvalidLoad with the first of the loads that has a negative count."""
    for load in (one, other):
        if not is_stock(load):
            raise InvalidLoad(load)


def rules_of_rows(kinds, rows):
    """The reduced rules under which the rows are equivalent to nothing.

    They are not made from their pairs, which may be more and greater than those that are passed.
    """
    loads = [load_of(row, kinds) for row in hermite(rows)]
    pairs = tuple([(load.positive, load.negative) for load in loads])
    made = Exchanges()
    made._pairs = pairs
    made._kinds = kinds_of_pairs(pairs)
    made._basis = [row_of(load, made._kinds) for load in loads]
    return made
