"""What the tests share: lists of all answers, an independent way for wide webs, and odd values."""

import itertools
import random

from halfpicked.webs import Web

GREATEST = 10 ** 30


def letters(many):
    """Different names in ascending order."""
    return ["".join(pair) for pair in itertools.product("abcdefgh", "abcdefgh")][:many]


def snapshot(web):
    """All that a web tells."""
    places = web.places()
    return (places, web.ties(), [web.price(place) for place in places],
            [web.near(place) for place in places], [web.degree(place) for place in places], len(web))


def listed(places, ties, prices):
    """All answers with their costs, found by trying everything."""
    found = []
    for values in itertools.product((0, 1, 2), repeat=len(places)):
        x = dict(zip(places, values))
        if all(x[a] + x[b] >= 2 for a, b in ties):
            found.append((sum(prices[place] * x[place] for place in places), x))
    return found


def best_of(found):
    """The least cost and all answers with this cost."""
    worth = min(cost for cost, _ in found)
    return worth, [x for cost, x in found if cost == worth]


def values_of(best, place):
    """The values that the best answers give the place, in ascending order."""
    return sorted({x[place] for x in best})


def pairs(places):
    """All ties that these places can have."""
    return list(itertools.combinations(places, 2))


def small_webs():
    """All webs of 1 to 3 places with small prices, many of 4, and some of 5 and 6 places."""
    rng = random.Random(7)
    for many in (1, 2, 3):
        places = list("abc"[:many])
        for ties in subsets(pairs(places)):
            for row in itertools.product((1, 2, 3), repeat=many):
                yield places, ties, dict(zip(places, row))
    for ties in subsets(pairs("abcd")):
        for _ in range(6):
            yield list("abcd"), ties, {place: rng.randint(1, 3) for place in "abcd"}
    for many in (5, 6):
        places = list("abcdef"[:many])
        for top in (1, 2, 4, GREATEST):
            for _ in range(20):
                ties = [tie for tie in pairs(places) if rng.random() < rng.choice((0.3, 0.5, 0.9))]
                yield places, ties, {place: rng.randint(1, top) for place in places}


def subsets(items):
    """All lists of some of the items."""
    for many in range(len(items) + 1):
        for some in itertools.combinations(items, many):
            yield list(some)


def all_covers(places, ties):
    """All covers as tuples in ascending order, found by trying everything."""
    chosen = (tuple(some) for some in subsets(sorted(places)))
    return sorted(some for some in chosen if all(a in some or b in some for a, b in ties))


def best_covers(places, ties, prices):
    """The least cost of a cover and all covers with this cost, in ascending order."""
    found = [(sum(prices[place] for place in cover), cover) for cover in all_covers(places, ties)]
    least = min(cost for cost, _ in found)
    return least, [cover for cost, cover in found if cost == least]


def clusters(sizes, cross=()):
    """Groups of numbered places that are all tied to each other, and some more ties across."""
    groups = []
    for size in sizes:
        first = sum(len(group) for group in groups)
        groups.append(list(range(first, first + size)))
    return groups, sorted([tie for group in groups for tie in pairs(group)] + list(cross))


def left_out(groups, cross):
    """The best covers of clusters with equal prices: each leaves one place of each group out.

    This holds if there is such a choice without a tie in it.
    """
    names = letters(sum(len(group) for group in groups))
    found = []
    for choice in itertools.product(*groups):
        if not any(a in choice and b in choice for a, b in cross):
            found.append(tuple(name for at, name in enumerate(names) if at not in choice))
    return sorted(found)


def numbered(many, ties, prices=None):
    """The web of the first names, with ties between their numbers; the prices are 1 if none are given."""
    names = letters(many)
    prices = prices or [1] * many
    return Web(tuple(names), [(names[a], names[b]) for a, b in ties], dict(zip(names, prices)))


def patchwork(rng, sizes, density, price):
    """A web of several parts with scattered names, and the parts as rows of places, ties and prices."""
    names = letters(sum(sizes))
    rng.shuffle(names)
    rows = []
    for size in sizes:
        places, names = names[:size], names[size:]
        ties = [tie for tie in pairs(places) if rng.random() < density]
        rows.append((places, ties, {place: price() for place in places}))
    return joined(rows), rows


def joined(rows):
    """The web of all these parts."""
    prices = {place: price for _, _, some in rows for place, price in some.items()}
    return Web(tuple(prices), [tie for _, ties, _ in rows for tie in ties], prices)


class Columns:
    """A wide web in columns, with ties only inside a column and between neighbours.

    It is solved column by column, without any flow. `least_of(kept)` is the least cost of the
    answers with these values; `marginals` gives it for each single value of each place.
    `cover_cost` is the least cost of a cover.
    """

    values = (0, 1, 2)

    def __init__(self, rng, many, rows, density, price):
        names = letters(many * rows)
        self.columns = [names[k:k + rows] for k in range(0, many * rows, rows)]
        self.inner = [[tie for tie in pairs(col) if rng.random() < density] for col in self.columns]
        self.outer = [
            [tie for tie in itertools.product(one, two) if rng.random() < density]
            for one, two in zip(self.columns, self.columns[1:])
        ]
        self.prices = {name: price() for name in names}
        ties = [tie for group in self.inner + self.outer for tie in group]
        self.web = Web(tuple(names), ties, self.prices)

    def _states(self, k, kept):
        col = self.columns[k]
        for values in itertools.product(self.values, repeat=len(col)):
            x = dict(zip(col, values))
            if all(x[a] + x[b] >= 2 for a, b in self.inner[k]):
                if all(kept.get(name, x[name]) == x[name] for name in col):
                    yield values, sum(self.prices[name] * x[name] for name in col)

    def _fits(self, k):
        """A test of two states of neighbouring columns."""
        one, two = self.columns[k], self.columns[k + 1]
        ties = [(one.index(a), two.index(b)) for a, b in self.outer[k]]
        return lambda left, right: all(left[i] + right[j] >= 2 for i, j in ties)

    def _sweep(self, states, order, fits):
        """For each column, each state's least cost of the columns up to it in this order."""
        costs = {order[0]: dict(states[order[0]])}
        for before, k in zip(order, order[1:]):
            ranked = sorted(costs[before].items(), key=lambda item: item[1])
            costs[k] = {}
            for values, own in states[k].items():
                for other, cost in ranked:
                    if fits(before, other, k, values):
                        costs[k][values] = own + cost
                        break
        return costs

    def _solved(self, kept):
        states = [dict(self._states(k, kept)) for k in range(len(self.columns))]
        tests = [self._fits(k) for k in range(len(self.outer))]

        def fits(i, left, j, right):
            return tests[i](left, right) if i < j else tests[j](right, left)

        order = list(range(len(self.columns)))
        return states, self._sweep(states, order, fits), self._sweep(states, order[::-1], fits)

    def least_of(self, kept):
        _, there, _ = self._solved(kept)
        last = there[len(self.columns) - 1]
        return min(last.values()) if last else None

    def cover_cost(self):
        """A cover is an answer without halves, and costs half of it."""
        self.values = (0, 2)
        found = self.least_of({})
        del self.values
        return found // 2

    def marginals(self):
        states, there, back = self._solved({})
        result = {}
        for k, col in enumerate(self.columns):
            for values, own in states[k].items():
                if values in there[k] and values in back[k]:
                    cost = there[k][values] + back[k][values] - own
                    for name, value in zip(col, values):
                        old = result.get((name, value))
                        result[(name, value)] = cost if old is None else min(old, cost)
        return result


def deep(wrap, depth=90):
    """A value that is nested this deep."""
    value = 0
    for _ in range(depth):
        value = wrap(value)
    return value


def odd_values():
    """Values of all built-in kinds; none is a place or a tie of the webs that they are tried on."""
    return [
        None, True, False, 0, 1, 2, 3, -1, GREATEST, GREATEST + 1, 10 ** 5000, -10 ** 5000,
        "", " ", "\n", "\t", "A", "a b", "a1", "~", "zzzzzzzz", "abcdefghi", "a" * 5000,
        b"", b"a", b"ab", bytearray(b"a"), memoryview(b"a"),
        [], ["a"], [1, [2]], (), ("a",), ("a", ["b"]), ([],), ({}, set()),
        {}, {"q": 1}, {1: 2}, {("a", "q"): 1}, {None: []}, {b"a": 1}, {frozenset(["a"]): ()},
        set(), {"a"}, {1, 2}, frozenset(), frozenset(["a"]),
        range(3), slice(1, 2), Ellipsis, NotImplemented, object(), int, dict, len, lambda x: x,
        iter([1]), iter({}), (k for k in "ab"), zip("ab", "cd"), enumerate("ab"), {}.keys(), {"a": 1}.items(),
        ValueError("a"), property(), ...,
        deep(lambda v: [v]), deep(lambda v: (v,)), deep(lambda v: {0: v}), deep(lambda v: [v, (v,)][1:]),
        deep(lambda v: frozenset([v])), deep(lambda v: (v, "a")),
    ]


def odd_integers():
    """Odd values without the integers."""
    return [value for value in odd_values() if not isinstance(value, int) or isinstance(value, bool)]


def same_field(test, error, field, value):
    """The error is plain HalfError's child with just this field, which holds this very value."""
    test.assertEqual(list(vars(error)), [field])
    test.assertIs(getattr(error, field), value)
