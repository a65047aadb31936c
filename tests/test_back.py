"""From an answer back to prices (points 30 to 32)."""

import itertools
import random
import unittest

from halfpicked.back import fault_of, only_for, prices_for
from halfpicked.errors import NoAnswer
from halfpicked.halves import answer, is_best, worth
from halfpicked.kernel import can, least
from halfpicked.webs import Web
from tests.support import (
    GREATEST, best_of, clusters, letters, listed, numbered, odd_values, pairs, small_webs, snapshot, subsets,
)

PATH = Web(("a", "b", "c"), [("a", "b"), ("b", "c")], {"a": 5, "b": 9, "c": GREATEST})
TRIANGLE = Web(("a", "b", "c"), pairs("abc"), {"a": 1, "b": 1, "c": 1})
ONE = {"a": 1, "b": 1, "c": 1}


def fault_listed(places, ties, x):
    """What fault_of should return, by the words of point 32."""
    idle = []
    for place in sorted(places):
        others = [b if a == place else a for a, b in ties if place in (a, b)]
        if x[place] > 0 and not any(x[other] == 2 - x[place] for other in others):
            idle.append(place)
    if idle:
        return ("place", idle[0])
    for part in parts_of_halves(places, ties, x):
        inner = [(a, b) for a, b in ties if a in part and b in part]
        for side in subsets(part):
            if part[0] in side and all((a in side) != (b in side) for a, b in inner):
                return ("sides", tuple(side), tuple(place for place in part if place not in side))
    return None


def parts_of_halves(places, ties, x):
    """The parts in ascending order, each as a list in ascending order."""
    parts = [[place] for place in sorted(places) if x[place] == 1]
    for a, b in ties:
        if x[a] == x[b] == 1:
            one = next(part for part in parts if a in part)
            two = next(part for part in parts if b in part)
            if one is not two:
                parts.remove(two)
                one += two
    return sorted(sorted(part) for part in parts)


class Example(unittest.TestCase):
    """The example behind point 32."""

    def test_in_the_middle(self):
        x = {"a": 0, "b": 2, "c": 0}
        for prices in (prices_for(PATH, x), only_for(PATH, x)):
            self.check(x, prices)
        self.assertEqual(self.best(only_for(PATH, x)), [x])
        self.assertIsNone(fault_of(PATH, x))

    def test_all_half(self):
        self.check(ONE, prices_for(PATH, ONE))
        self.assertIsNone(only_for(PATH, ONE))
        self.assertEqual(fault_of(PATH, ONE), ("sides", ("a", "c"), ("b",)))

    def test_half_at_the_end(self):
        x = {"a": 0, "b": 2, "c": 1}
        self.assertEqual((prices_for(PATH, x), only_for(PATH, x), fault_of(PATH, x)), (None, None, ("place", "c")))

    def test_other_prices_of_the_example(self):
        self.assertEqual(self.best({"a": 2, "b": 2, "c": 2}), [{"a": 0, "b": 2, "c": 0}])
        self.assertIn(ONE, self.best({"a": 1, "b": 2, "c": 1}))

    def check(self, x, prices):
        self.assertIn(x, self.best(prices))

    def best(self, prices):
        return best_of(listed("abc", PATH.ties(), prices))[1]


class SmallWebs(unittest.TestCase):

    def rows(self):
        """Webs with different ties, and all or some of their answers."""
        rng = random.Random(37)
        seen = []
        for places, ties, prices in small_webs():
            if (places, ties) not in seen:
                seen.append((places, ties))
                found = [x for _, x in listed(places, ties, prices)]
                yield places, ties, prices, found if len(found) <= 30 else rng.sample(found, 30)

    def test_against_the_list(self):
        kinds = set()
        for places, ties, prices, answers in self.rows():
            web = Web(tuple(places), ties, prices)
            shot = snapshot(web)
            for x in answers:
                old = dict(x)
                fault = fault_listed(places, ties, x)
                kinds.add(fault and fault[0])
                self.assertEqual(fault_of(web, x), fault)
                found = prices_for(web, x)
                self.assertEqual(found is None, fault is not None and fault[0] == "place")
                if found is not None:
                    self.assertIn(x, self.best(places, ties, found))
                found = only_for(web, x)
                self.assertEqual(found is None, fault is not None)
                if found is not None:
                    self.assertEqual(self.best(places, ties, found), [x])
                self.assertEqual(x, old)
            self.assertEqual(snapshot(web), shot)
        self.assertEqual(kinds, {None, "place", "sides"})

    def best(self, places, ties, prices):
        self.assertIs(type(prices), dict)
        self.assertEqual(sorted(prices), sorted(places))
        self.assertTrue(all(type(price) is int and 1 <= price <= GREATEST for price in prices.values()))
        return best_of(listed(places, ties, prices))[1]

    def test_none_is_none(self):
        # Wherever small prices do it, there is no None, and there is a None only where they do not.
        for many in (1, 2, 3):
            places = list("abc"[:many])
            for ties in subsets(pairs(places)):
                one = dict.fromkeys(places, 1)
                best = set()
                only = set()
                for row in itertools.product(range(1, 5), repeat=many):
                    found = [tuple(x.values()) for x in best_of(listed(places, ties, dict(zip(places, row))))[1]]
                    best.update(found)
                    only.update(found if len(found) == 1 else [])
                web = Web(tuple(places), ties, one)
                for _, x in listed(places, ties, one):
                    self.assertEqual(prices_for(web, x) is not None, tuple(x.values()) in best)
                    self.assertEqual(only_for(web, x) is not None, tuple(x.values()) in only)

    def test_prices_of_the_web_mean_nothing(self):
        for places, ties, prices, answers in itertools.islice(self.rows(), 0, None, 3):
            web = Web(tuple(places), ties, prices)
            other = Web(tuple(places), ties, dict.fromkeys(places, GREATEST))
            for x in answers[:8]:
                self.assertEqual(fault_of(web, x), fault_of(other, x))
                self.assertEqual(prices_for(web, x) is None, prices_for(other, x) is None)
                self.assertEqual(only_for(web, x) is None, only_for(other, x) is None)


class Faults(unittest.TestCase):

    def test_without_ties(self):
        web = Web(("b", "a"), [], {"a": 3, "b": GREATEST})
        zero = {"a": 0, "b": 0}
        self.assertIsNone(fault_of(web, zero))
        for prices in (prices_for(web, zero), only_for(web, zero)):
            self.assertEqual(sorted(prices), ["a", "b"])
            self.assertTrue(all(1 <= price <= GREATEST for price in prices.values()))
        for x, place in (({"a": 1, "b": 0}, "a"), ({"a": 0, "b": 2}, "b"), ({"a": 2, "b": 1}, "a")):
            self.assertEqual((prices_for(web, x), only_for(web, x), fault_of(web, x)), (None, None, ("place", place)))

    def test_parts_side_by_side(self):
        # An odd ring, then a ring of 4, then a path: the first part with two sides is told.
        ties = [(0, 1), (1, 2), (0, 2), (3, 4), (4, 5), (5, 6), (3, 6), (7, 8), (8, 9)]
        web = numbered(10, ties)
        names = web.places()
        one = dict.fromkeys(names, 1)
        self.assertEqual(fault_of(web, one), ("sides", (names[3], names[5]), (names[4], names[6])))
        self.assertIsNone(only_for(web, one))
        self.assertIsNotNone(prices_for(web, one))
        closed = web.with_tie(names[3], names[5])
        self.assertEqual(fault_of(closed, one), ("sides", (names[7], names[9]), (names[8],)))
        closed = closed.with_tie(names[7], names[9])
        self.assertIsNone(fault_of(closed, one))
        self.check_only(closed, one)

    def test_parts_are_of_halves_only(self):
        # The ring a, b, c is odd, but c is 2, so a and b are a part with two sides.
        web = Web(("a", "b", "c", "d"), [*pairs("abc"), ("c", "d")], dict.fromkeys("abcd", 1))
        x = {"a": 1, "b": 1, "c": 2, "d": 0}
        self.assertEqual(fault_of(web, x), ("sides", ("a",), ("b",)))
        # Two parts of halves that only a place with value 2 joins.
        ties = [("a", "c"), ("b", "d"), ("e", "a"), ("e", "b"), ("e", "f")]
        web = Web(tuple("abcdef"), ties, dict.fromkeys("abcdef", 1))
        x = {**dict.fromkeys("abcd", 1), "e": 2, "f": 0}
        self.assertEqual(fault_of(web, x), ("sides", ("a",), ("c",)))

    def test_place_goes_first(self):
        web = numbered(6, [(0, 1), (2, 3), (3, 4)])
        names = web.places()
        x = dict(zip(names, (1, 1, 2, 2, 0, 1)))
        self.assertEqual(fault_of(web, x), ("place", names[2]))
        self.assertEqual(fault_of(web, {**x, names[2]: 0}), ("place", names[5]))
        self.assertEqual(fault_of(web, {**x, names[2]: 0, names[5]: 0}), ("sides", (names[0],), (names[1],)))

    def test_odd_rings(self):
        for many in (3, 5, 7, 9):
            names = letters(many)
            web = Web(tuple(names), list(zip(names, names[1:] + names[:1])), dict.fromkeys(names, 1))
            one = dict.fromkeys(names, 1)
            self.assertIsNone(fault_of(web, one))
            self.check_only(web, one)

    def check_only(self, web, x):
        check_best(self, web, x, only_for(web, x))
        check_only_best(self, web, x, only_for(web, x))

    def test_by_name(self):
        x = {"a": 0, "b": 2, "c": 0}
        self.assertIn(x, best_of(listed("abc", PATH.ties(), prices_for(x=x, web=PATH)))[1])
        self.assertEqual([x], best_of(listed("abc", PATH.ties(), only_for(x=x, web=PATH)))[1])
        self.assertEqual(fault_of(x=ONE, web=PATH), ("sides", ("a", "c"), ("b",)))

    def test_results_are_new(self):
        x = {"a": 0, "b": 2, "c": 0}
        for function in (prices_for, only_for):
            found = function(PATH, x)
            old = dict(found)
            found.clear()
            self.assertEqual(function(PATH, x), old)
        self.assertEqual(x, {"a": 0, "b": 2, "c": 0})

    def test_no_answer(self):
        wrong = [*odd_values(), {**ONE, "a": 0}, {**ONE, "a": True}, {**ONE, "d": 1}, {"a": 1, "b": 1}, {**ONE, "b": 3}]
        for x in wrong:
            for function in (prices_for, only_for, fault_of):
                with self.assertRaises(NoAnswer) as caught:
                    function(TRIANGLE, x)
                self.assertEqual(vars(caught.exception), {})


def with_prices(web, prices):
    """The web with these prices."""
    return Web(tuple(web.places()), web.ties(), prices)


def check_best(test, web, x, prices):
    test.assertEqual(sorted(prices), web.places())
    other = with_prices(web, prices)
    test.assertEqual(sum(prices[place] * x[place] for place in x), worth(other))
    test.assertIs(is_best(other, x), True)


def check_only_best(test, web, x, prices):
    other = with_prices(web, prices)
    for place in web.places():
        values = [value for value in (0, 1, 2) if can(other, place, value)]
        test.assertEqual(values, [x[place]])


class WideWebs(unittest.TestCase):

    def test_random_webs(self):
        rng = random.Random(41)
        kinds = []
        for many, ties, top in itertools.product((20, 40), (25, 60, 150, 400), (2, GREATEST)):
            names = letters(many)
            rng.shuffle(names)
            some = rng.sample(pairs(names), min(ties, many * (many - 1) // 2))
            web = Web(tuple(names), some, {name: rng.randint(1, top) for name in names})
            for x in (answer(web), least(web), dict.fromkeys(names, 1), self.made(rng, web)):
                kinds.append(self.check(web, x))
        self.assertEqual(set(kinds), {None, "place", "sides"})

    def made(self, rng, web):
        """An answer: the places left out, in their turn, take all their neighbours."""
        x = dict.fromkeys(web.places(), 1)
        for place in rng.sample(web.places(), 3):
            if all(x[other] != 0 for other in web.near(place)):
                x[place] = 0
                x.update(dict.fromkeys(web.near(place), 2))
        return x

    def check(self, web, x):
        fault = fault_of(web, x)
        prices, only = prices_for(web, x), only_for(web, x)
        self.assertEqual(only is None, fault is not None)
        if prices is None:
            self.assertEqual(fault[0], "place")
        else:
            self.assertTrue(fault is None or fault[0] == "sides")
            check_best(self, web, x, prices)
        if only is not None:
            check_best(self, web, x, only)
            check_only_best(self, web, x, only)
        if fault is not None and fault[0] == "sides":
            self.check_sides(web, x, fault)
        return fault and fault[0]

    def check_sides(self, web, x, fault):
        _, left, right = fault
        self.assertEqual((list(left), list(right)), (sorted(left), sorted(right)))
        self.assertLess(left[0], right[0])
        self.assertFalse(set(left) & set(right))
        part = next(p for p in parts_of_halves(web.places(), web.ties(), x) if left[0] in p)
        self.assertEqual(sorted(left + right), part)
        for a, b in web.ties():
            self.assertFalse((a in left and b in left) or (a in right and b in right))

    def test_best_answers_have_prices(self):
        # The web's own prices do it, so there is never a place in the way.
        for places, ties, prices in itertools.islice(small_webs(), 0, None, 4):
            web = Web(tuple(places), ties, prices)
            _, best = best_of(listed(places, ties, prices))
            for x in best:
                self.assertIsNotNone(prices_for(web, x))
                if len(best) == 1:
                    self.assertIsNotNone(only_for(web, x))

    def test_many_odd_parts(self):
        groups, ties = clusters([3] * 12 + [4])
        web = numbered(40, ties, [GREATEST] * 40)
        one = dict.fromkeys(web.places(), 1)
        self.assertIsNone(fault_of(web, one))
        check_only_best(self, web, one, only_for(web, one))
        # Without one tie the last group of three is a path.
        a, b = web.places()[33], web.places()[34]
        cut = web.without_tie(a, b)
        self.assertEqual(fault_of(cut, one), ("sides", (a, b), (web.places()[35],)))


if __name__ == "__main__":
    unittest.main()
