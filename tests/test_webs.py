"""Webs: the constructor and what a web tells (points 2 to 6)."""

import itertools
import unittest

from halfpicked.errors import BadPlaces, BadPrice, BadTie, NoPlace
from halfpicked.webs import Web
from tests.support import GREATEST, letters, odd_integers, odd_values, pairs, same_field, snapshot


def plain():
    return Web(("b", "a", "c"), [("b", "a"), ("b", "c")], {"c": 3, "a": 1, "b": 2})


class Building(unittest.TestCase):

    def test_reads_back_in_order(self):
        web = plain()
        self.assertEqual(web.places(), ["a", "b", "c"])
        self.assertEqual(web.ties(), [("a", "b"), ("b", "c")])
        self.assertEqual([web.price(place) for place in "abc"], [1, 2, 3])
        self.assertEqual([web.near(place) for place in "abc"], [["b"], ["a", "c"], ["b"]])
        self.assertEqual([web.degree(place) for place in "abc"], [1, 2, 1])
        self.assertEqual(len(web), 3)

    def test_arguments_by_name(self):
        web = Web(prices={"a": 1, "b": 2}, ties=[("b", "a")], places=("a", "b"))
        self.assertEqual(web, Web(("a", "b"), [("a", "b")], {"a": 1, "b": 2}))
        self.assertEqual((web.price(place="b"), web.near(place="b"), web.degree(place="b")), (2, ["a"], 1))
        with self.assertRaises(BadPlaces) as caught:
            Web(prices=None, ties=None, places=None)
        same_field(self, caught.exception, "index", -1)

    def test_edges_of_sizes_and_prices(self):
        one = Web(("abcdefgh",), [], {"abcdefgh": GREATEST})
        self.assertEqual(snapshot(one), (["abcdefgh"], [], [GREATEST], [[]], [0], 1))
        names = letters(40)
        ties = pairs(names)[:400]
        prices = {name: 1 + index % 2 * (GREATEST - 1) for index, name in enumerate(names)}
        web = Web(tuple(names), ties, prices)
        self.assertEqual((len(web), web.places(), web.ties()), (40, names, sorted(ties)))
        self.assertEqual([web.price(name) for name in names], [1, GREATEST] * 20)

    def test_letters_of_names(self):
        web = Web(("z", "a", "az", "aa", "zzzzzzzz"), [], dict.fromkeys(("z", "a", "az", "aa", "zzzzzzzz"), 1))
        self.assertEqual(web.places(), ["a", "aa", "az", "z", "zzzzzzzz"])

    def test_ties_go_by_strings(self):
        web = Web(("b", "ab", "a"), [("b", "a"), ("ab", "b"), ("ab", "a")], {"a": 1, "b": 1, "ab": 1})
        self.assertEqual(web.ties(), [("a", "ab"), ("a", "b"), ("ab", "b")])
        self.assertEqual([web.near(place) for place in ("a", "ab", "b")], [["ab", "b"], ["a", "b"], ["a", "ab"]])

    def test_near_is_sorted(self):
        names = letters(12)
        for middle in names:
            ties = [(middle, name) if index % 2 else (name, middle) for index, name in enumerate(names) if name != middle]
            web = Web(tuple(names), ties[::-1], dict.fromkeys(names, 1))
            self.assertEqual(web.near(middle), [name for name in names if name != middle])
            self.assertEqual(web.degree(middle), 11)


class WrongPlaces(unittest.TestCase):

    def check(self, places, index):
        # The later parameters are wrong, too: the first one counts.
        for ties, prices in (([], {}), (None, None), ([("a", "a")], {"a": 0})):
            with self.assertRaises(BadPlaces) as caught:
                Web(places, ties, prices)
            self.assertEqual(vars(caught.exception), {"index": index})

    def test_not_a_tuple(self):
        for value in odd_values():
            if not isinstance(value, tuple):
                self.check(value, -1)
        self.check(["a", "b"], -1)
        self.check("ab", -1)
        self.check({"a": 1}, -1)

    def test_sizes(self):
        self.check((), -1)
        self.check(tuple(letters(41)), -1)
        self.check((1,) * 41, -1)
        self.check(tuple(letters(39)) + (5,), 39)

    def test_items(self):
        for value in odd_values():
            if value != "zzzzzzzz":
                self.check((value,), 0)
                self.check(("a", "b", value, value), 2)
        for name in ("", "abcdefghi", "Ab", "a b", "a\n", "a-", "`", "{", "A", "0"):
            self.check(("x", name), 1)

    def test_same_name_twice(self):
        self.check(("a", "b", "a", "b"), 2)
        self.check(("a", "a", 1), 1)
        self.check(("a", 1, "a"), 1)


class WrongTies(unittest.TestCase):

    def check(self, ties, index):
        for prices in ({"a": 1, "b": 1, "c": 1}, {}, None, {"a": 0, "b": 1, "c": 1}):
            with self.assertRaises(BadTie) as caught:
                Web(("a", "b", "c"), ties, prices)
            self.assertEqual(vars(caught.exception), {"index": index})

    def test_not_a_list(self):
        for value in odd_values():
            if not isinstance(value, list):
                self.check(value, -1)
        self.check((("a", "b"),), -1)
        self.check({("a", "b"): 1}, -1)

    def test_sizes(self):
        names = letters(40)
        ties = pairs(names)
        prices = dict.fromkeys(names, 1)
        self.assertEqual(len(Web(tuple(names), ties[:400], prices).ties()), 400)
        for wrong, index in ((ties[:401], -1), ([5] * 401, -1), (ties[:399] + [5], 399), ([5] * 400, 0)):
            with self.assertRaises(BadTie) as caught:
                Web(tuple(names), wrong, prices)
            self.assertEqual(caught.exception.index, index)

    def test_items(self):
        for value in odd_values():
            self.check([value], 0)
            self.check([("a", "b"), value, None], 1)
            self.check([("a", "b"), ("a", "c"), ("b", value)], 2)
            self.check([("a", "b"), (value, "a")], 1)
        for tie in (["a", "b"], ("a", "b", "c"), ("a",), ("a", "a"), ("a", "d"), "ab", {"a": 1, "b": 1}):
            self.check([("b", "c"), tie], 1)

    def test_same_tie_twice(self):
        self.check([("a", "b"), ("a", "c"), ("a", "b")], 2)
        self.check([("a", "b"), ("b", "a"), 5], 1)
        self.check([("b", "a"), ("c", "a"), ("a", "c"), ("b", "a")], 2)


class WrongPrices(unittest.TestCase):

    def check(self, prices, place):
        with self.assertRaises(BadPrice) as caught:
            Web(("c", "b", "a"), [("a", "b")], prices)
        self.assertEqual(vars(caught.exception), {"place": place})

    def test_form(self):
        for value in odd_values():
            self.check(value, "")
            if value != "zzzzzzzz" and not isinstance(value, (list, dict, set, bytearray)):
                try:
                    prices = {"a": 1, "b": 2, value: 3}
                except TypeError:
                    continue
                self.check(prices, "")
                self.check({**prices, "c": 0}, "")
        self.check({"a": 1, "b": 2}, "")
        self.check({"a": 0, "b": 2}, "")
        self.check({"a": 1, "b": 2, "c": 3, "d": 4}, "")
        self.check([("a", 1), ("b", 1), ("c", 1)], "")

    def test_single_prices(self):
        for value in (0, -1, GREATEST + 1, 10 ** 5000, *odd_integers()):
            self.check({"a": 1, "b": value, "c": value}, "b")
            self.check({"c": value, "b": value, "a": value}, "a")
            self.check({"c": value, "b": GREATEST, "a": 1}, "c")


class Reading(unittest.TestCase):

    def test_no_place(self):
        web = plain()
        before = snapshot(web)
        for value in (*odd_values(), "d", "ab", b"a", ("a",), ["a"]):
            for method in (web.price, web.near, web.degree):
                with self.assertRaises(NoPlace) as caught:
                    method(value)
                same_field(self, caught.exception, "place", value)
        self.assertEqual(snapshot(web), before)

    def test_contains(self):
        web = plain()
        self.assertEqual([place in web for place in "abc"], [True, True, True])
        for value in (*odd_values(), "d", "ab", b"a", ("a", "b"), ["a"]):
            self.assertIs(value in web, False)

    def test_equal(self):
        places, ties, prices = ("a", "b", "c"), [("a", "b"), ("b", "c")], {"a": 1, "b": 2, "c": 3}
        web = Web(places, ties, prices)
        for names in itertools.permutations(places):
            for some in (ties, ties[::-1], [("b", "a"), ("c", "b")]):
                other = Web(names, some, {name: prices[name] for name in names[::-1]})
                self.assertTrue(web == other)
                self.assertFalse(web != other)
        for other in (
            Web(("a", "b", "d"), [("a", "b"), ("b", "d")], {"a": 1, "b": 2, "d": 3}),
            Web(places, [("a", "b")], prices), Web(places, [("a", "b"), ("a", "c")], prices),
            Web(places, ties, {**prices, "c": 4}),
            Web((*places, "d"), ties, {**prices, "d": 1}),
        ):
            self.assertFalse(web == other)
            self.assertTrue(web != other)


class Apart(unittest.TestCase):
    """Point 4: nothing is kept, nothing is shared."""

    def test_passed_lists_and_dicts(self):
        ties, prices = [("b", "a"), ("b", "c")], {"c": 3, "a": 1, "b": 2}
        web = Web(("a", "b", "c"), ties, prices)
        self.assertEqual((ties, prices), ([("b", "a"), ("b", "c")], {"c": 3, "a": 1, "b": 2}))
        ties.append(("a", "c"))
        ties[0] = None
        prices["a"] = 9
        del prices["b"]
        self.assertEqual(snapshot(web), snapshot(plain()))

    def test_returned_lists(self):
        web = plain()
        for _ in range(2):
            web.places().clear()
            web.places().append("z")
            web.ties().pop()
            web.near("b").append("b")
        self.assertEqual(snapshot(web), snapshot(plain()))

    def test_failing_arguments_stay(self):
        ties, prices = [("a", "b"), ("b", "a")], {"a": 1}
        self.assertRaises(BadTie, Web, ("a", "b"), ties, prices)
        self.assertEqual((ties, prices), ([("a", "b"), ("b", "a")], {"a": 1}))


if __name__ == "__main__":
    unittest.main()
