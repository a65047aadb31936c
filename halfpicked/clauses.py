"""Clauses of two literals, their readings, the steps between literals, and half readings."""

from halfpicked.checks import MOST_ROWS, has_just, has_values, is_among, is_literal, names_fault, price_fault
from halfpicked.errors import BadCost, BadLiteral, BadNames, BadRow, NoHalf, NoName, NoReading, NoTruth
from halfpicked.sides import half_sides
from halfpicked.steps import Steps, opposite


class Clauses:
    """Names with prices, and rows of two literals. Clauses never change."""

    def __init__(self, names, rows, prices):
        wrong = names_fault(names)
        if wrong is not None:
            raise BadNames(wrong)
        wrong = _row_fault(rows, names)
        if wrong is not None:
            raise BadRow(wrong)
        wrong = price_fault(prices, names, 0)
        if wrong is not None:
            raise BadCost(wrong)
        self._prices = {name: prices[name] for name in sorted(names)}
        self._rows = list(rows)

    def names(self):
        """The names in ascending order."""
        return list(self._prices)

    def rows(self):
        """The rows in the order in which they were passed."""
        return list(self._rows)

    def price(self, name):
        """The price of the name."""
        self._need(name)
        return self._prices[name]

    def __len__(self):
        return len(self._rows)

    def __contains__(self, x):
        return is_among(x, self._prices)

    def __eq__(self, other):
        return isinstance(other, Clauses) and self._prices == other._prices and self._rows == other._rows

    def with_row(self, row):
        """These clauses with one row more, behind the others."""
        return Clauses(tuple(self._prices), [*self._rows, row], self._prices)

    def with_cost(self, name, price):
        """These clauses with another price of the name."""
        self._need(name)
        return Clauses(tuple(self._prices), self._rows, {**self._prices, name: price})

    def _need(self, name):
        """Raises NoName if this is none of the names."""
        if not is_among(name, self._prices):
            raise NoName(name)


def is_true(clauses, reading):
    """True if each row has a literal that is true in the reading."""
    _need_reading(clauses, reading)
    return all([reading[a] == one or reading[b] == two for (a, one), (b, two) in clauses.rows()])


def reading_cost(clauses, reading):
    """The sum of the prices of the names that are True."""
    _need_reading(clauses, reading)
    return sum([clauses.price(name) for name in reading if reading[name]])


def truth(clauses):
    """A true reading, or None."""
    steps = Steps(clauses)
    reading = {}
    for name, flag in steps.literals():
        followers = None if name in reading else steps.harmless((name, flag))
        if followers is not None:
            # This changes no flag: what stands in the reading brings all that follows from it along.
            reading.update(dict(followers))
    return reading if len(reading) == len(clauses.names()) else None


def follows(clauses, literal):
    """All literals that follow from this one, in ascending order."""
    _need_literal(clauses, literal)
    return sorted(list(Steps(clauses).reach(literal)))


def chain(clauses, literal, goal):
    """A list of literals with a step from each to the next one, or None."""
    _need_literal(clauses, literal)
    _need_literal(clauses, goal)
    return Steps(clauses).chain(literal, goal)


def ring(clauses):
    """Steps from a literal to its opposite and back, or None if there is a true reading."""
    steps = Steps(clauses)
    for name in clauses.names():
        there = steps.chain((name, True), (name, False))
        back = steps.chain((name, False), (name, True))
        if there is not None and back is not None:
            return there + back[1:]
    return None


def must(clauses):
    """The literals that are true in every true reading, in ascending order."""
    if truth(clauses) is None:
        raise NoTruth()
    steps = Steps(clauses)
    return [literal for literal in steps.literals() if steps.harmless(opposite(literal)) is None]


def is_half(clauses, x):
    """True if x is a half reading."""
    if not has_values(x, clauses.names()):
        return False
    return all([_value(x, one) + _value(x, two) >= 2 for one, two in clauses.rows()])


def half_cost(clauses, x):
    """The sum of price times value over all names."""
    if not is_half(clauses, x):
        raise NoHalf()
    return sum([clauses.price(name) * x[name] for name in x])


def half_worth(clauses):
    """The least half cost of a half reading."""
    return half_sides(clauses).total


def half_reading(clauses):
    """A half reading of the least half cost."""
    return half_sides(clauses).answer()


def is_best_half(clauses, x):
    """True if x is a half reading of the least half cost."""
    return is_half(clauses, x) and half_cost(clauses, x) == half_worth(clauses)


def _need_reading(clauses, reading):
    """Raises an error if this is no dict of just the names to True and False."""
    if not has_just(reading, clauses.names()) or not all([isinstance(reading[name], bool) for name in reading]):
        raise NoReading()


def _need_literal(clauses, literal):
    """Raises an error if this is no literal over the names."""
    if not is_literal(literal, clauses.names()):
        raise BadLiteral()


def _value(x, literal):
    """The value of the literal in x."""
    name, flag = literal
    return x[name] if flag else 2 - x[name]


def _is_row(value, names):
    """True for a tuple of two literals over these names."""
    return isinstance(value, tuple) and len(value) == 2 and all([is_literal(part, names) for part in value])


def _row_fault(rows, names):
    """The index of the first wrong row, -1 if it is no list of at most 400, None if all is well."""
    if not isinstance(rows, list) or len(rows) > MOST_ROWS:
        return -1
    for index, row in enumerate(rows):
        if not _is_row(row, names):
            return index
    return None
