"""Methods that return a new web, and the sum of two webs (points 7 and 8)."""

import unittest

from halfpicked.errors import (
    BadList, BadPrice, CommonPlace, EmptyWeb, NoName, NoPlace, NoTie, PlaceThere, SamePlace, TieThere, TooMany,
)
from halfpicked.halves import worth
from halfpicked.kernel import kernel
from halfpicked.webs import Web
from tests.support import (
    GREATEST, best_of, letters, listed, odd_integers, odd_values, pairs, small_webs, snapshot,
)

WRONG_PRICES = (0, -1, GREATEST + 1, 10 ** 5000, *odd_integers())


class NewWebs(unittest.TestCase):

    def setUp(self):
        self.web = Web(("c", "a", "b"), [("b", "a"), ("b", "c")], {"a": 1, "b": 2, "c": 3})
        self.before = snapshot(self.web)

    def tearDown(self):
        self.assertEqual(snapshot(self.web), self.before)

    def check(self, error, fields, call, *args, **more):
        """The call raises just this error, with these very values in its fields."""
        with self.assertRaises(error) as caught:
            call(*args, **more)
        self.assertIs(caught.exception.__class__, error)
        self.assertEqual(list(vars(caught.exception)), list(fields))
        for field, value in fields.items():
            found = getattr(caught.exception, field)
            self.assertTrue(found is value or found == value)
            self.assertIs(found.__class__, value.__class__)
        self.assertEqual(snapshot(self.web), self.before)


class Prices(NewWebs):

    def test_new_price(self):
        for price in (1, 7, GREATEST):
            new = self.web.with_price("b", price)
            self.assertEqual(new, Web(("a", "b", "c"), [("a", "b"), ("b", "c")], {"a": 1, "b": price, "c": 3}))
        self.assertEqual(self.web.with_price(price=2, place="b"), self.web)

    def test_errors(self):
        for value in odd_values():
            self.check(NoPlace, {"place": value}, self.web.with_price, value, 1)
            self.check(NoPlace, {"place": value}, self.web.with_price, value, None)
        for value in WRONG_PRICES:
            self.check(BadPrice, {"place": "b"}, self.web.with_price, "b", value)


class Ties(NewWebs):

    def test_one_more(self):
        full = Web(("a", "b", "c"), [("a", "b"), ("a", "c"), ("b", "c")], {"a": 1, "b": 2, "c": 3})
        self.assertEqual(self.web.with_tie("a", "c"), full)
        self.assertEqual(self.web.with_tie(b="a", a="c"), full)
        self.assertEqual(self.web.with_tie("c", "a").ties(), [("a", "b"), ("a", "c"), ("b", "c")])

    def test_one_more_errors(self):
        for value in odd_values():
            self.check(NoPlace, {"place": value}, self.web.with_tie, value, "a")
            self.check(NoPlace, {"place": value}, self.web.with_tie, value, "zz")
            self.check(NoPlace, {"place": value}, self.web.with_tie, "a", value)
        self.check(NoPlace, {"place": "x"}, self.web.with_tie, "x", "x")
        self.check(SamePlace, {"place": "a"}, self.web.with_tie, "a", "a")
        self.check(TieThere, {"pair": ("a", "b")}, self.web.with_tie, "a", "b")
        self.check(TieThere, {"pair": ("b", "c")}, self.web.with_tie, "c", "b")

    def test_limit(self):
        names = letters(40)
        ties = pairs(names)
        web = Web(tuple(names), ties[:399], dict.fromkeys(names, 1)).with_tie(*ties[399])
        self.assertEqual(len(web.ties()), 400)
        self.check(TooMany, {"limit": 400}, web.with_tie, *ties[400])
        self.check(TooMany, {"limit": 400}, web.with_tie, *ties[400][::-1])
        self.check(TieThere, {"pair": ties[0]}, web.with_tie, *ties[0])
        self.check(SamePlace, {"place": names[3]}, web.with_tie, names[3], names[3])
        self.check(NoPlace, {"place": "x"}, web.with_tie, "x", names[3])

    def test_one_less(self):
        less = Web(("a", "b", "c"), [("b", "c")], {"a": 1, "b": 2, "c": 3})
        self.assertEqual(self.web.without_tie("a", "b"), less)
        self.assertEqual(self.web.without_tie(b="a", a="b"), less)
        self.assertEqual(less.without_tie("c", "b").ties(), [])

    def test_one_less_errors(self):
        for value in odd_values():
            self.check(NoPlace, {"place": value}, self.web.without_tie, value, None)
            self.check(NoPlace, {"place": value}, self.web.without_tie, "c", value)
        self.check(NoTie, {"pair": ("a", "c")}, self.web.without_tie, "a", "c")
        self.check(NoTie, {"pair": ("a", "c")}, self.web.without_tie, "c", "a")
        self.check(NoTie, {"pair": ("b", "b")}, self.web.without_tie, "b", "b")


class Places(NewWebs):

    def test_one_more(self):
        new = self.web.with_place("ab")
        self.assertEqual(new.places(), ["a", "ab", "b", "c"])
        self.assertEqual((new.price("ab"), new.near("ab"), new.ties()), (1, [], self.web.ties()))
        for price in (1, GREATEST):
            self.assertEqual(self.web.with_place(place="abcdefgh", price=price).price("abcdefgh"), price)
        self.assertRaises(TypeError, self.web.with_place, "d", 1)

    def test_one_more_errors(self):
        for value in odd_values():
            if value != "zzzzzzzz":
                self.check(NoName, {"name": value}, self.web.with_place, value)
                self.check(NoName, {"name": value}, self.web.with_place, value, price=0)
        self.check(PlaceThere, {"place": "b"}, self.web.with_place, "b")
        self.check(PlaceThere, {"place": "b"}, self.web.with_place, "b", price=0)
        for value in WRONG_PRICES:
            self.check(BadPrice, {"place": "d"}, self.web.with_place, "d", price=value)

    def test_limit(self):
        names = letters(39)
        web = Web(tuple(names), [], dict.fromkeys(names, 1)).with_place("zz", price=5)
        self.assertEqual((len(web), web.price("zz")), (40, 5))
        self.check(TooMany, {"limit": 40}, web.with_place, "zzz")
        self.check(TooMany, {"limit": 40}, web.with_place, "zzz", price=0)
        self.check(PlaceThere, {"place": "zz"}, web.with_place, "zz", price=0)
        self.check(NoName, {"name": "Z"}, web.with_place, "Z", price=0)

    def test_one_less(self):
        self.assertEqual(self.web.without_place("b"), Web(("a", "c"), [], {"a": 1, "c": 3}))
        self.assertEqual(self.web.without_place(place="a"), Web(("b", "c"), [("c", "b")], {"b": 2, "c": 3}))

    def test_one_less_errors(self):
        one = self.web.without_place("a").without_place("b")
        for value in odd_values():
            self.check(NoPlace, {"place": value}, self.web.without_place, value)
            self.check(NoPlace, {"place": value}, one.without_place, value)
        self.check(EmptyWeb, {}, one.without_place, "c")
        self.assertEqual(one, Web(("c",), [], {"c": 3}))

    def test_inside(self):
        self.assertEqual(self.web.inside(["c", "b"]), Web(("b", "c"), [("b", "c")], {"b": 2, "c": 3}))
        self.assertEqual(self.web.inside(["c", "a"]), Web(("a", "c"), [], {"a": 1, "c": 3}))
        self.assertEqual(self.web.inside(["b", "a", "b", "b"]), Web(("a", "b"), [("a", "b")], {"a": 1, "b": 2}))
        self.assertEqual(self.web.inside(places=["a"] * 500), Web(("a",), [], {"a": 1}))
        self.assertEqual(self.web.inside(["c", "b", "a"]), self.web)

    def test_inside_errors(self):
        for value in odd_values():
            if not isinstance(value, list):
                self.check(BadList, {}, self.web.inside, value)
            self.check(NoPlace, {"place": value}, self.web.inside, ["a", value, "q"])
        self.check(BadList, {}, self.web.inside, ("a", "b"))
        self.check(NoPlace, {"place": "d"}, self.web.inside, ["d"])
        self.check(EmptyWeb, {}, self.web.inside, [])

    def test_inside_keeps_nothing(self):
        some = ["b", "a", "b"]
        new = self.web.inside(some)
        self.assertEqual(some, ["b", "a", "b"])
        some.append("c")
        some[0] = "z"
        self.assertEqual(new.places(), ["a", "b"])


class Sums(NewWebs):

    def test_sum(self):
        other = Web(("d", "ab"), [("d", "ab")], {"ab": 5, "d": GREATEST})
        both = Web(("a", "ab", "b", "c", "d"), [("a", "b"), ("b", "c"), ("ab", "d")],
                   {"a": 1, "ab": 5, "b": 2, "c": 3, "d": GREATEST})
        self.assertEqual(self.web + other, both)
        self.assertEqual(other + self.web, both)
        self.assertEqual(snapshot(other), snapshot(Web(("ab", "d"), [("ab", "d")], {"ab": 5, "d": GREATEST})))

    def test_sums_add_up(self):
        webs = [row for row in small_webs() if len(row[0]) == 4][::40]
        for places, ties, prices in webs:
            web = Web(tuple(places), ties, prices)
            low, best = best_of(listed(places, ties, prices))
            other = Web(("x", "y", "z"), [("x", "y"), ("x", "z"), ("y", "z")], {"x": 1, "y": 1, "z": 1})
            halves = [place for place in places if all(x[place] == 1 for x in best)]
            self.assertEqual(worth(web + other), low + 3)
            self.assertEqual(kernel(other + web), halves + ["x", "y", "z"])

    def test_common_place(self):
        self.check(CommonPlace, {"place": "a"}, lambda: self.web + self.web)
        other = Web(("z", "c", "b"), [], {"b": 1, "c": 1, "z": 1})
        self.check(CommonPlace, {"place": "b"}, lambda: self.web + other)
        self.check(CommonPlace, {"place": "b"}, lambda: other + self.web)

    def test_limits(self):
        names = letters(42)
        most = {name: 1 for name in names}

        def part(low, high, many):
            some = names[low:high]
            return Web(tuple(some), pairs(some)[:many], {name: most[name] for name in some})

        self.assertEqual(len(part(0, 20, 0) + part(20, 40, 0)), 40)
        self.check(TooMany, {"limit": 40}, lambda: part(0, 20, 0) + part(20, 41, 0))
        self.check(TooMany, {"limit": 40}, lambda: part(0, 30, 400) + part(30, 42, 1))
        self.assertEqual(len((part(0, 30, 399) + part(30, 40, 1)).ties()), 400)
        self.check(TooMany, {"limit": 400}, lambda: part(0, 30, 399) + part(30, 40, 2))
        self.check(CommonPlace, {"place": names[29]}, lambda: part(0, 30, 400) + part(29, 42, 5))


class Steady(NewWebs):

    def test_old_web_after_new_ones(self):
        web = self.web
        new = [
            web.with_price("a", 9), web.with_tie("a", "c"), web.without_tie("a", "b"), web.with_place("d"),
            web.without_place("c"), web.inside(["a", "b"]), web + Web(("x",), [], {"x": 1}),
        ]
        shots = [snapshot(other) for other in new]
        for other in new:
            other.places().clear()
            other.ties().clear()
            other.near("a").clear()
        self.assertEqual([snapshot(other) for other in new], shots)


if __name__ == "__main__":
    unittest.main()
