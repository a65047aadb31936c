"""Curves and the prices for which an answer is best (points 27 to 29)."""

import itertools
import random
import unittest

from halfpicked.curves import Curve, keeps
from halfpicked.errors import BadNumber, NoAnswer, NoPlace
from halfpicked.halves import answer, is_best, worth
from halfpicked.kernel import least
from halfpicked.webs import Web
from tests.support import (
    GREATEST, Columns, listed, numbered, odd_integers, odd_values, pairs, same_field, small_webs, snapshot,
)

WEB = Web(("a", "b", "c"), pairs("abc"), {"a": 1, "b": 1, "c": 1})
ONE = {"a": 1, "b": 1, "c": 1}
BAD_NUMBERS = [0, -1, GREATEST + 1, 10 ** 5000, -10 ** 5000, *odd_integers()]


def rests_of(curve):
    return (curve.none, curve.half, curve.both)


def lines(found, place, prices):
    """For each answer its value at the place, and its cost at the other places."""
    return [(x[place], cost - x[place] * prices[place], x) for cost, x in found]


def rests_listed(rows):
    return tuple(min(rest for value, rest, _ in rows if value == i) for i in (0, 1, 2))


class Example(unittest.TestCase):
    """The example behind point 29."""

    def test_curve(self):
        curve = Curve(WEB, "a")
        self.assertEqual((curve.none, curve.half, curve.both), (4, 2, 2))
        self.assertEqual(curve.breaks(), (0, 2))
        self.assertEqual([curve(price) for price in (1, 2, 3)], [3, 4, 4])
        self.assertEqual(curve.at(2), [0, 1])

    def test_keeps(self):
        self.assertEqual(keeps(WEB, ONE, "a"), (1, 2))
        self.assertEqual(keeps(WEB, {"a": 0, "b": 2, "c": 2}, "a"), (2, None))
        self.assertIsNone(keeps(WEB, {"a": 2, "b": 2, "c": 0}, "a"))


class SmallWebs(unittest.TestCase):

    def test_curves(self):
        for places, ties, prices in small_webs():
            web = Web(tuple(places), ties, prices)
            shot = snapshot(web)
            found = listed(places, ties, prices)
            for place in places:
                rows = lines(found, place, prices)
                none, half, both = rests_listed(rows)
                curve = Curve(web, place)
                self.assertEqual(rests_of(curve), (none, half, both))
                self.assertTrue(both <= half <= none and half - both <= none - half)
                self.assertEqual(curve.breaks(), (half - both, none - half))
                self.assertIs(type(curve.breaks()), tuple)
                for price in self.numbers(curve):
                    most = min(none, half + price, both + 2 * price)
                    self.assertEqual(curve(price), most)
                    values = [i for i, rest in enumerate((none, half, both)) if rest + i * price == most]
                    self.assertEqual(curve.at(price), values)
            self.assertEqual(snapshot(web), shot)

    def numbers(self, curve):
        near = {price + step for price in curve.breaks() for step in (-1, 0, 1)}
        return [price for price in {1, 2, 3, 7, GREATEST, *near} if 1 <= price <= GREATEST]

    def test_worth(self):
        for places, ties, prices in itertools.islice(small_webs(), 0, None, 7):
            web = Web(tuple(places), ties, prices)
            for place in places:
                curve = Curve(web, place)
                self.assertEqual(curve(web.price(place)), worth(web))
                for price in self.numbers(curve):
                    other = web.with_price(place, price)
                    self.assertEqual(curve(price), worth(other))
                    self.assertEqual(rests_of(Curve(other, place)), rests_of(curve))
                    self.assertIs(curve == Curve(other, place), True)

    def test_keeps(self):
        rng = random.Random(13)
        for places, ties, prices in itertools.islice(small_webs(), 0, None, 2):
            web = Web(tuple(places), ties, prices)
            found = listed(places, ties, prices)
            some = found if len(found) <= 12 else rng.sample(found, 6) + sorted(found, key=lambda row: row[0])[:6]
            for place in places:
                rows = lines(found, place, prices)
                for _, x in some:
                    old = dict(x)
                    self.check_keeps(web, x, place, rows)
                    self.assertEqual(x, old)

    def check_keeps(self, web, x, place, rows):
        value, rest, _ = rows[[row[2] for row in rows].index(x)]
        lowest = {(i, min(other for v, other, _ in rows if v == i)) for i in (0, 1, 2)}

        def is_kept(price):
            return all(rest + value * price <= other + i * price for i, other in lowest)

        # The ends of the stretch are 1 or crossings of two lines, and beyond them nothing changes.
        tried = {1, 10 ** 40}
        for (i, one), (j, two) in itertools.permutations(lowest, 2):
            if i != j:
                tried |= {(one - two) // (j - i) + step for step in (-1, 0, 1, 2)}
        good = sorted(price for price in tried if price >= 1 and is_kept(price))
        if not good:
            self.assertIsNone(keeps(web, x, place))
            return
        low, high = keeps(web, x, place)
        self.assertEqual((low, 10 ** 40 if high is None else high), (good[0], good[-1]))
        self.assertTrue(low == 1 or not is_kept(low - 1))
        self.assertTrue(high is None or not is_kept(high + 1))

    def test_keeps_says_best(self):
        for places, ties, prices in itertools.islice(small_webs(), 0, None, 11):
            web = Web(tuple(places), ties, prices)
            for _, x in listed(places, ties, prices)[::4]:
                for place in places:
                    found = keeps(web, x, place)
                    for price in (1, 2, 3, 4, 5, 9, GREATEST):
                        inside = found is not None and found[0] <= price and (found[1] is None or price <= found[1])
                        self.assertIs(is_best(web.with_price(place, price), x), inside)


class Curves(unittest.TestCase):

    def test_without_ties(self):
        curve = Curve(Web(("a", "b"), [], {"a": 7, "b": 9}), "b")
        self.assertEqual((rests_of(curve), curve.breaks()), ((0, 0, 0), (0, 0)))
        self.assertEqual([curve(price) for price in (1, GREATEST)], [0, 0])
        self.assertEqual([curve.at(price) for price in (1, GREATEST)], [[0], [0]])

    def test_star(self):
        star = numbered(40, [(0, at) for at in range(1, 40)], [5] + [GREATEST] * 39)
        curve = Curve(star, star.places()[0])
        most = 39 * GREATEST
        self.assertEqual((rests_of(curve), curve.breaks()), ((2 * most, most, 0), (most, most)))
        self.assertEqual((curve(1), curve(GREATEST), curve.at(1), curve.at(GREATEST)), (2, 2 * GREATEST, [2], [2]))
        leaf = Curve(star, star.places()[1])
        self.assertEqual((rests_of(leaf), leaf.at(1), leaf(GREATEST)), ((10, 10, 10), [0], 10))

    def test_all_values_at_once(self):
        curve = Curve(Web(("a", "b"), [("a", "b")], {"a": 1, "b": GREATEST}), "a")
        self.assertEqual(curve.at(GREATEST), [0, 1, 2])
        self.assertEqual(curve.at(GREATEST - 1), [2])
        self.assertEqual(curve(GREATEST), 2 * GREATEST)
        self.assertEqual(Curve(Web(("a", "b"), [("a", "b")], {"a": 1, "b": 1}), "a").at(1), [0, 1, 2])

    def test_equal(self):
        curve = Curve(WEB, "a")
        self.assertIs(curve == Curve(WEB.with_price("a", GREATEST), "a"), True)
        self.assertIs(curve == Curve(WEB, "b"), True)
        self.assertIs(curve != Curve(WEB, "c"), False)
        # From the second on each one differs from the first in one rest only.
        curves = [
            Curve(WEB, "a"),
            Curve(WEB.without_tie("a", "b").without_tie("a", "c"), "a"),
            Curve(Web(("a", "b"), [("a", "b")], {"a": 1, "b": 2}), "a"),
            Curve(Web(("a", "b", "c"), [("a", "b"), ("a", "c")], {"a": 2, "b": 1, "c": 1}), "b"),
        ]
        self.assertEqual([rests_of(curve) for curve in curves], [(4, 2, 2), (2, 2, 2), (4, 2, 0), (4, 3, 2)])
        for (i, one), (j, two) in itertools.product(enumerate(curves), repeat=2):
            self.assertIs(one == two, i == j)
            self.assertIs(one != two, i != j)

    def test_properties(self):
        curve = Curve(WEB, "a")
        for name in ("none", "half", "both"):
            self.assertIsInstance(vars(Curve)[name], property)
            self.assertIs(type(getattr(curve, name)), int)
            with self.assertRaises(AttributeError):
                setattr(curve, name, 5)
        curve.at(1).clear()
        self.assertEqual((curve.at(1), rests_of(curve)), ([1], (4, 2, 2)))

    def test_the_web_stays_behind(self):
        web = WEB
        curve = Curve(web, "a")
        web = web.with_price("b", 9).without_tie("a", "c")
        self.assertEqual((rests_of(curve), curve(1)), ((4, 2, 2), 3))
        self.assertEqual(Curve(web, "a")(1), 4)

    def test_by_name(self):
        curve = Curve(place="a", web=WEB)
        self.assertEqual((curve(price=3), curve.at(price=3)), (4, [0]))
        self.assertEqual(keeps(place="a", x=ONE, web=WEB), (1, 2))


class Keeps(unittest.TestCase):

    def test_ends(self):
        web = Web(("a", "b", "c"), [("a", "b"), ("a", "c")], {"a": 1, "b": GREATEST, "c": GREATEST})
        # From 1 to above 10 ** 30; from there on without an end; and just one price.
        self.assertEqual(keeps(web, {"a": 2, "b": 0, "c": 0}, "a"), (1, 2 * GREATEST))
        self.assertEqual(keeps(web, {"a": 0, "b": 2, "c": 2}, "a"), (2 * GREATEST, None))
        self.assertEqual(keeps(web, {"a": 1, "b": 1, "c": 1}, "a"), (2 * GREATEST, 2 * GREATEST))
        self.assertIsNone(keeps(web, {"a": 2, "b": 0, "c": 1}, "a"))
        self.assertIsNone(keeps(web, {"a": 1, "b": 1, "c": 2}, "a"))

    def test_without_ties(self):
        web = Web(("a", "b"), [], {"a": 5, "b": 5})
        self.assertEqual(keeps(web, {"a": 0, "b": 0}, "a"), (1, None))
        for x in ({"a": 1, "b": 0}, {"a": 2, "b": 0}, {"a": 0, "b": 1}, {"a": 0, "b": 2}):
            self.assertIsNone(keeps(web, x, "a"))

    def test_never_two(self):
        # The first break is 0, so no price from 1 on lets a have the value 2.
        self.assertIsNone(keeps(WEB, {"a": 2, "b": 1, "c": 1}, "a"))
        web = Web(("a", "b"), [("a", "b")], {"a": 9, "b": 1})
        self.assertEqual(keeps(web, {"a": 2, "b": 0}, "a"), (1, 1))
        self.assertEqual(keeps(web, {"a": 1, "b": 1}, "a"), (1, 1))
        self.assertEqual(keeps(web, {"a": 0, "b": 2}, "a"), (1, None))

    def test_errors(self):
        for x in (*odd_values(), {**ONE, "a": 0}, {**ONE, "b": True}, {**ONE, "d": 0}, {**ONE, "c": 3}):
            for place in ("a", "d", x):
                with self.assertRaises(NoAnswer) as caught:
                    keeps(WEB, x, place)
                self.assertEqual(vars(caught.exception), {})
        for place in (*odd_values(), "d", "ab"):
            for x in (ONE, dict.fromkeys("abc", 2)):
                with self.assertRaises(NoPlace) as caught:
                    keeps(WEB, x, place)
                same_field(self, caught.exception, "place", place)


class Errors(unittest.TestCase):

    def test_no_place(self):
        for place in (*odd_values(), "d", "ab"):
            with self.assertRaises(NoPlace) as caught:
                Curve(WEB, place)
            same_field(self, caught.exception, "place", place)

    def test_bad_number(self):
        curve = Curve(WEB, "a")
        for price in BAD_NUMBERS:
            for call in (curve, curve.at):
                with self.assertRaises(BadNumber) as caught:
                    call(price)
                self.assertEqual(vars(caught.exception), {})
        self.assertEqual((curve(1), curve(GREATEST), curve.at(1), curve.at(GREATEST)), (3, 4, [1], [0]))


class WideWebs(unittest.TestCase):

    def test_columns(self):
        rng = random.Random(31)
        for many, rows, density in ((20, 2, 0.7), (13, 3, 0.5), (10, 4, 0.4)):
            for top in (1, 5, GREATEST):
                wide = Columns(rng, many, rows, density, lambda: rng.randint(1, top))
                rests = wide.marginals()
                best = [answer(wide.web), least(wide.web)]
                for place in wide.web.places():
                    curve = Curve(wide.web, place)
                    own = wide.prices[place]
                    self.assertEqual(rests_of(curve), tuple(rests[place, i] - i * own for i in (0, 1, 2)))
                    self.check_best(wide.web, best, place, curve)

    def check_best(self, web, best, place, curve):
        """A best answer is kept for its own price, and as far as the curve bends there."""
        first, second = curve.breaks()
        ends = {0: (max(1, second), None), 1: (max(1, first), second), 2: (1, first)}
        for x in best:
            low, high = keeps(web, x, place)
            self.assertEqual((low, high), ends[x[place]])
            self.assertTrue(low <= web.price(place) and (high is None or web.price(place) <= high))

    def test_dense(self):
        web = numbered(40, pairs(range(40))[-400:], [GREATEST] * 40)
        for place in web.places()[::7]:
            curve = Curve(web, place)
            self.assertEqual(curve(GREATEST), worth(web))
            self.assertEqual(curve(1), worth(web.with_price(place, 1)))
            self.assertIsNotNone(keeps(web, answer(web), place))


if __name__ == "__main__":
    unittest.main()
