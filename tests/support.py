"""What the tests share: lists of all answers, an independent way for wide webs, and odd values."""

import itertools
import random

from halfpicked.clauses import Clauses
from halfpicked.webs import Web

GREATEST = 10 ** 30


def letters(many):
    """Different names in ascending order."""
    return ["".join(pair) for pair in itertools.product("abcdefgh", "abcdefgh")][:many]


def snapshot(web):
    """All that a web tells."""
    places = web.places()
    return (places, web.ties(), [web.price(place) for place in places],
            [web.near(place) for place in places], [web.degree(place) for place in places], len(web))


def listed(places, ties, prices):
    """All answers with their costs, found by trying everything."""
    found = []
    for values in itertools.product((0, 1, 2), repeat=len(places)):
        x = dict(zip(places, values))
        if all(x[a] + x[b] >= 2 for a, b in ties):
            found.append((sum(prices[place] * x[place] for place in places), x))
    return found


def best_of(found):
    """The least cost and all answers with this cost."""
    worth = min(cost for cost, _ in found)
    return worth, [x for cost, x in found if cost == worth]


def values_of(best, place):
    """The values that the best answers give the place, in ascending order."""
    return sorted({x[place] for x in best})


def pairs(places):
    """All ties that these places can have."""
    return list(itertools.combinations(places, 2))


def small_webs():
    """All webs of 1 to 3 places with small prices, many of 4, and some of 5 and 6 places."""
    rng = random.Random(7)
    for many in (1, 2, 3):
        places = list("abc"[:many])
        for ties in subsets(pairs(places)):
            for row in itertools.product((1, 2, 3), repeat=many):
                yield places, ties, dict(zip(places, row))
    for ties in subsets(pairs("abcd")):
        for _ in range(6):
            yield list("abcd"), ties, {place: rng.randint(1, 3) for place in "abcd"}
    for many in (5, 6):
        places = list("abcdef"[:many])
        for top in (1, 2, 4, GREATEST):
            for _ in range(20):
                ties = [tie for tie in pairs(places) if rng.random() < rng.choice((0.3, 0.5, 0.9))]
                yield places, ties, {place: rng.randint(1, top) for place in places}


def subsets(items):
    """All lists of some of the items."""
    for many in range(len(items) + 1):
        for some in itertools.combinations(items, many):
            yield list(some)


def all_covers(places, ties):
    """All covers as tuples in ascending order, found by trying everything."""
    chosen = (tuple(some) for some in subsets(sorted(places)))
    return sorted(some for some in chosen if all(a in some or b in some for a, b in ties))


def best_covers(places, ties, prices):
    """The least cost of a cover and all covers with this cost, in ascending order."""
    found = [(sum(prices[place] for place in cover), cover) for cover in all_covers(places, ties)]
    least = min(cost for cost, _ in found)
    return least, [cover for cost, cover in found if cost == least]


def clusters(sizes, cross=()):
    """Groups of numbered places that are all tied to each other, and some more ties across."""
    groups = []
    for size in sizes:
        first = sum(len(group) for group in groups)
        groups.append(list(range(first, first + size)))
    return groups, sorted([tie for group in groups for tie in pairs(group)] + list(cross))


def left_out(groups, cross):
    """The best covers of clusters with equal prices: each leaves one place of each group out.

    This holds if there is such a choice without a tie in it.
    """
    names = letters(sum(len(group) for group in groups))
    found = []
    for choice in itertools.product(*groups):
        if not any(a in choice and b in choice for a, b in cross):
            found.append(tuple(name for at, name in enumerate(names) if at not in choice))
    return sorted(found)


def numbered(many, ties, prices=None):
    """The web of the first names, with ties between their numbers; the prices are 1 if none are given."""
    names = letters(many)
    prices = prices or [1] * many
    return Web(tuple(names), [(names[a], names[b]) for a, b in ties], dict(zip(names, prices)))


def patchwork(rng, sizes, density, price):
    """A web of several parts with scattered names, and the parts as rows of places, ties and prices."""
    names = letters(sum(sizes))
    rng.shuffle(names)
    rows = []
    for size in sizes:
        places, names = names[:size], names[size:]
        ties = [tie for tie in pairs(places) if rng.random() < density]
        rows.append((places, ties, {place: price() for place in places}))
    return joined(rows), rows


def joined(rows):
    """The web of all these parts."""
    prices = {place: price for _, _, some in rows for place, price in some.items()}
    return Web(tuple(prices), [tie for _, ties, _ in rows for tie in ties], prices)


def tie_row(a, b):
    """A tie as a row of clauses."""
    return ((a, True), (b, True))


def weight(x, literal):
    """The value of the literal in x."""
    name, flag = literal
    return x[name] if flag else 2 - x[name]


def literals(names):
    """All literals over these names in ascending order."""
    return [(name, flag) for name in sorted(names) for flag in (False, True)]


def true_readings(names, rows):
    """All true readings, found by trying everything."""
    readings = (dict(zip(names, flags)) for flags in itertools.product((False, True), repeat=len(names)))
    return [reading for reading in readings if all(reading[a] == f or reading[b] == g for (a, f), (b, g) in rows)]


def cheapest_readings(names, rows, prices):
    """The least cost of a true reading and all true readings with this cost."""
    found = [(sum(prices[name] for name in names if x[name]), x) for x in true_readings(names, rows)]
    low = min(cost for cost, _ in found)
    return low, [x for cost, x in found if cost == low]


def half_listed(names, rows, prices):
    """All half readings with their half costs, found by trying everything."""
    found = []
    for values in itertools.product((0, 1, 2), repeat=len(names)):
        x = dict(zip(names, values))
        if all(weight(x, one) + weight(x, two) >= 2 for one, two in rows):
            found.append((sum(prices[name] * x[name] for name in names), x))
    return found


def step_pairs(rows):
    """All steps that these rows make, as pairs of literals."""
    sides = [pair for one, two in rows for pair in ((one, two), (two, one))]
    return {((name, not flag), head) for (name, flag), head in sides}


def closure(names, rows):
    """For each literal the set of all that follow from it, by adding what can be added."""
    steps = step_pairs(rows)
    found = {literal: {literal} for literal in literals(names)}
    while True:
        more = {start: {head for tail, head in steps if tail in some} - some for start, some in found.items()}
        if not any(more.values()):
            return found
        for start in found:
            found[start] |= more[start]


def small_clauses():
    """All sets of rows over one name, many over two, and some lists of rows over up to five names."""
    rng = random.Random(33)
    for names in ("a", "ab"):
        for rows in subsets(list(itertools.combinations_with_replacement(literals(names), 2))):
            yield list(names), rows, {name: rng.choice((0, 1, 1, 2, 3)) for name in names}
    for many in (3, 4, 5):
        names = list("abcde"[:many])
        for size in range(2, 3 * many):
            for top in (0, 1, 3, 3, GREATEST):
                yield names, random_rows(rng, names, size), {name: rng.randint(0, top) for name in names}


def random_rows(rng, names, size, hidden=None):
    """Rows over these names; if a reading is given, it is true in all of them."""
    rows = []
    while len(rows) < size:
        row = tuple((rng.choice(names), rng.random() < 0.6) for _ in "ab")
        if hidden is None or any(hidden[name] == flag for name, flag in row):
            rows.append(row)
    return rows


def cut_worth(rows, prices):
    """The least half cost, as a least cut between literals that is found by single shortest paths."""
    room = {}
    for tail, head in step_pairs(rows):
        room.setdefault(tail, {})[head] = 2 * sum(prices.values()) + 1
    for name, price in prices.items():
        room.setdefault("source", {})[(name, False)] = price
        room.setdefault((name, True), {})["sink"] = price
    total = 0
    while True:
        before, border = {"source": None}, ["source"]
        for node in border:
            for head, left in room.get(node, {}).items():
                if left and head not in before:
                    before[head] = node
                    border.append(head)
        if "sink" not in before:
            return total
        way = ["sink"]
        while before[way[-1]] is not None:
            way.append(before[way[-1]])
        arcs = list(zip(way[1:], way))
        amount = min(room[tail][head] for tail, head in arcs)
        for tail, head in arcs:
            room[tail][head] -= amount
            room.setdefault(head, {}).setdefault(tail, 0)
            room[head][tail] += amount
        total += amount


def cut_values(rows, prices):
    """For each name with a price above 0 the least and the greatest value in the best half readings.

    If all prices are much larger, a price that is larger or smaller by 1 shows them.
    """
    large = {name: 10 * price for name, price in prices.items()}
    low = cut_worth(rows, large)
    return {
        name: (cut_worth(rows, {**large, name: price + 1}) - low, low - cut_worth(rows, {**large, name: price - 1}))
        for name, price in large.items() if price > 0
    }


def told(clauses):
    """All that a Clauses object tells."""
    names = clauses.names()
    return (names, clauses.rows(), [clauses.price(name) for name in names], len(clauses))


class Columns:
    """Wide clauses in columns, with rows only inside a column and between neighbours.

    They are solved column by column, without any flow. `row` makes the row of two names; if it is
    left out, each row is a tie, and `web` is the web of these ties. `least_of(kept)` is the least
    cost of the answers with these values; `marginals` gives it for each single value of each name.
    `cover_cost` is the least cost of a cover or a true reading, or None.
    """

    values = (0, 1, 2)

    def __init__(self, rng, many, height, density, price, row=tie_row):
        names = letters(many * height)
        self.columns = [names[k:k + height] for k in range(0, many * height, height)]
        self.inner = [[row(a, b) for a, b in pairs(col) if rng.random() < density] for col in self.columns]
        self.outer = [
            [row(a, b) for a, b in itertools.product(one, two) if rng.random() < density]
            for one, two in zip(self.columns, self.columns[1:])
        ]
        self.prices = {name: price() for name in names}
        rows = sum(self.inner + self.outer, [])
        self.clauses = Clauses(tuple(names), rows, self.prices)
        if row is tie_row:
            self.web = Web(tuple(names), [(a, b) for (a, _), (b, _) in rows], self.prices)

    def _states(self, k, kept):
        col = self.columns[k]
        for values in itertools.product(self.values, repeat=len(col)):
            x = dict(zip(col, values))
            if all(weight(x, one) + weight(x, two) >= 2 for one, two in self.inner[k]):
                if all(kept.get(name, x[name]) == x[name] for name in col):
                    yield values, sum(self.prices[name] * x[name] for name in col)

    def _fits(self, k):
        """A test of two states of neighbouring columns."""
        one, two = self.columns[k], self.columns[k + 1]
        rows = [((one.index(a), f), (two.index(b), g)) for (a, f), (b, g) in self.outer[k]]
        return lambda left, right: all(weight(left, a) + weight(right, b) >= 2 for a, b in rows)

    def _sweep(self, states, order, fits):
        """For each column, each state's least cost of the columns up to it in this order."""
        costs = {order[0]: dict(states[order[0]])}
        for before, k in zip(order, order[1:]):
            ranked = sorted(costs[before].items(), key=lambda item: item[1])
            costs[k] = {}
            for values, own in states[k].items():
                for other, cost in ranked:
                    if fits(before, other, k, values):
                        costs[k][values] = own + cost
                        break
        return costs

    def _solved(self, kept):
        states = [dict(self._states(k, kept)) for k in range(len(self.columns))]
        tests = [self._fits(k) for k in range(len(self.outer))]

        def fits(i, left, j, right):
            return tests[i](left, right) if i < j else tests[j](right, left)

        order = list(range(len(self.columns)))
        return states, self._sweep(states, order, fits), self._sweep(states, order[::-1], fits)

    def least_of(self, kept):
        _, there, _ = self._solved(kept)
        last = there[len(self.columns) - 1]
        return min(last.values()) if last else None

    def cover_cost(self):
        """A cover is an answer without halves, and costs half of it."""
        self.values = (0, 2)
        found = self.least_of({})
        del self.values
        return None if found is None else found // 2

    def flags(self):
        """For each name the list of the flags that the cheapest true readings give it."""
        self.values = (0, 2)
        low, costs = self.least_of({}), self.marginals()
        del self.values
        return {
            name: [flag for flag, value in ((False, 0), (True, 2)) if costs.get((name, value)) == low]
            for name in self.prices
        }

    def marginals(self):
        states, there, back = self._solved({})
        result = {}
        for k, col in enumerate(self.columns):
            for values, own in states[k].items():
                if values in there[k] and values in back[k]:
                    cost = there[k][values] + back[k][values] - own
                    for name, value in zip(col, values):
                        old = result.get((name, value))
                        result[(name, value)] = cost if old is None else min(old, cost)
        return result


def deep(wrap, depth=90):
    """A value that is nested this deep."""
    value = 0
    for _ in range(depth):
        value = wrap(value)
    return value


def odd_values():
    """Values of all built-in kinds; none is a place or a tie of the webs that they are tried on."""
    return [
        None, True, False, 0, 1, 2, 3, -1, GREATEST, GREATEST + 1, 10 ** 5000, -10 ** 5000,
        "", " ", "\n", "\t", "A", "a b", "a1", "~", "zzzzzzzz", "abcdefghi", "a" * 5000,
        b"", b"a", b"ab", bytearray(b"a"), memoryview(b"a"),
        [], ["a"], [1, [2]], (), ("a",), ("a", ["b"]), ([],), ({}, set()),
        {}, {"q": 1}, {1: 2}, {("a", "q"): 1}, {None: []}, {b"a": 1}, {frozenset(["a"]): ()},
        set(), {"a"}, {1, 2}, frozenset(), frozenset(["a"]),
        range(3), slice(1, 2), Ellipsis, NotImplemented, object(), int, dict, len, lambda x: x,
        iter([1]), iter({}), (k for k in "ab"), zip("ab", "cd"), enumerate("ab"), {}.keys(), {"a": 1}.items(),
        ValueError("a"), property(), ...,
        deep(lambda v: [v]), deep(lambda v: (v,)), deep(lambda v: {0: v}), deep(lambda v: [v, (v,)][1:]),
        deep(lambda v: frozenset([v])), deep(lambda v: (v, "a")),
    ]


def odd_integers():
    """Odd values without the integers."""
    return [value for value in odd_values() if not isinstance(value, int) or isinstance(value, bool)]


def same_field(test, error, field, value):
    """The error is plain HalfError's child with just this field, which holds this very value."""
    test.assertEqual(list(vars(error)), [field])
    test.assertIs(getattr(error, field), value)
