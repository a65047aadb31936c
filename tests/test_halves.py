"""Half-way answers and tie prices (points 9 to 11)."""

import copy
import itertools
import unittest

from halfpicked.errors import NoAnswer
from halfpicked.halves import answer, cost, is_answer, is_best, prices_fault, tie_prices, worth
from halfpicked.webs import Web
from tests.support import GREATEST, best_of, listed, odd_integers, odd_values, small_webs, snapshot

PATH = Web(("a", "b", "c"), [("a", "b"), ("b", "c")], {"a": 1, "b": 5, "c": 3})
LONE = Web(("abcdefgh",), [], {"abcdefgh": GREATEST})


class Answers(unittest.TestCase):

    def test_all_dicts_of_small_values(self):
        for places, ties, prices in itertools.islice(small_webs(), 0, None, 23):
            web = Web(tuple(places), ties, prices)
            found = [x for _, x in listed(places, ties, prices)]
            for values in itertools.product((0, 1, 2), repeat=len(places)):
                x = dict(zip(places[::-1], values))
                self.assertIs(is_answer(web, x), x in found)

    def test_cost(self):
        self.assertEqual(cost(PATH, {"c": 0, "a": 0, "b": 2}), 10)
        self.assertEqual(cost(x={"a": 2, "b": 1, "c": 1}, web=PATH), 10)
        self.assertEqual(cost(LONE, {"abcdefgh": 2}), 2 * GREATEST)
        self.assertEqual(cost(LONE, {"abcdefgh": 0}), 0)

    def wrong(self, x, web=PATH):
        self.assertIs(is_answer(web, x), False)
        self.assertIs(is_best(web, x), False)
        with self.assertRaises(NoAnswer) as caught:
            cost(web, x)
        self.assertEqual(vars(caught.exception), {})

    def test_no_dicts(self):
        for value in odd_values():
            self.wrong(value)
            self.wrong(value, LONE)
        self.wrong([("a", 1), ("b", 1), ("c", 1)])
        self.wrong(("a", "b", "c"))

    def test_wrong_keys(self):
        self.wrong({"a": 1, "b": 1})
        self.wrong({"a": 1, "b": 1, "d": 1})
        self.wrong({"a": 1, "b": 1, "c": 1, "d": 1})
        for key in (None, 1, True, b"c", ("c",), frozenset("c"), "", "C", Ellipsis):
            self.wrong({"a": 1, "b": 1, key: 1})
            self.wrong({"a": 1, "b": 1, "c": 1, key: 1})

    def test_wrong_values(self):
        for value in (-1, 3, 10 ** 5000, *odd_integers()):
            self.wrong({"a": value, "b": 2, "c": 1})
            self.wrong({"a": 2, "b": 2, "c": value})
        for value in (-1, 3, True, False):
            self.wrong({"abcdefgh": value}, LONE)
        self.wrong({"a": True, "b": True, "c": True})
        self.wrong({"a": False, "b": 2, "c": False})

    def test_wrong_sums(self):
        self.wrong({"a": 0, "b": 1, "c": 2})
        self.wrong({"a": 2, "b": 0, "c": 1})
        self.wrong({"a": 0, "b": 0, "c": 0})


class Worth(unittest.TestCase):

    def test_small_webs(self):
        for places, ties, prices in small_webs():
            web = Web(tuple(places[::-1]), [(b, a) for a, b in ties], prices)
            shot = snapshot(web)
            found = listed(places, ties, prices)
            low, best = best_of(found)
            self.assertEqual(worth(web), low)
            self.assertIn(answer(web), best)
            y = tie_prices(web)
            self.assertEqual(sorted(y), sorted(ties))
            self.assertEqual(sum(y.values()), low)
            self.assertTrue(all(price.__class__ is int and price >= 0 for price in y.values()))
            for place in places:
                self.assertLessEqual(sum(y[tie] for tie in y if place in tie), 2 * prices[place])
            self.assertIsNone(prices_fault(web, y))
            for price, x in found[::5]:
                self.assertEqual(cost(web, x), price)
                self.assertIs(is_best(web, x), price == low)
            self.assertTrue(all(is_best(web, x) is True for x in best))
            self.assertEqual(snapshot(web), shot)

    def test_without_ties(self):
        for names in (("a",), ("b", "a", "c")):
            web = Web(names, [], dict.fromkeys(names, GREATEST))
            zero = dict.fromkeys(names, 0)
            self.assertEqual((worth(web), answer(web), tie_prices(web)), (0, zero, {}))
            self.assertIs(is_best(web, zero), True)
            self.assertIs(is_best(web, {**zero, "a": 1}), False)
            self.assertIsNone(prices_fault(web, {}))

    def test_kinds_of_values(self):
        self.assertIs(worth(LONE).__class__, int)
        for x in (answer(PATH), tie_prices(PATH)):
            self.assertEqual({value.__class__ for value in x.values()}, {int})

    def test_arguments_by_name(self):
        self.assertEqual(worth(web=PATH), 8)
        self.assertEqual(answer(web=PATH), {"a": 2, "b": 0, "c": 2})
        self.assertIs(is_answer(x={"a": 2, "b": 2, "c": 2}, web=PATH), True)
        self.assertIs(is_best(x={"a": 2, "b": 0, "c": 2}, web=PATH), True)
        self.assertEqual(tie_prices(web=PATH), {("a", "b"): 2, ("b", "c"): 6})
        self.assertIsNone(prices_fault(y={("a", "b"): 2, ("b", "c"): 6}, web=PATH))

    def test_results_are_new(self):
        for call in (answer, tie_prices):
            first = call(PATH)
            want = dict(first)
            first.clear()
            first["z"] = 7
            self.assertEqual(call(PATH), want)

    def test_arguments_stay(self):
        shot = snapshot(PATH)
        for x in ({"a": 2, "b": 0, "c": 2}, {"a": 1, "b": [1], "c": 1}, [1, [2]]):
            old = copy.deepcopy(x)
            is_answer(PATH, x)
            is_best(PATH, x)
            prices_fault(PATH, x)
            if is_answer(PATH, x):
                cost(PATH, x)
            else:
                self.assertRaises(NoAnswer, cost, PATH, x)
            self.assertEqual(x, old)
        self.assertEqual(snapshot(PATH), shot)


class TiePrices(unittest.TestCase):
    """What prices_fault tells. PATH has the worth 8 by (a, b): 2 and (b, c): 6."""

    def check(self, y, result):
        found = prices_fault(PATH, y)
        self.assertEqual(found, result)
        self.assertIs(found.__class__, result.__class__)

    def test_form(self):
        for value in odd_values():
            self.check(value, ("form",))
        for value in (-1, -10 ** 5000, *odd_integers()):
            self.check({("a", "b"): value, ("b", "c"): 6}, ("form",))
            self.check({("a", "b"): 10 ** 40, ("b", "c"): value}, ("form",))
        self.check({("a", "b"): 2}, ("form",))
        self.check({("b", "a"): 2, ("b", "c"): 6}, ("form",))
        self.check({("a", "b"): 2, ("b", "c"): 6, ("a", "c"): 0}, ("form",))
        self.check({("a", "b"): 2, ("b", "c"): 6, ("b", "a"): 0}, ("form",))
        self.check({"ab": 2, "bc": 6}, ("form",))
        for key in (None, 5, "bc", ("b",), ("b", "c", "c"), (b"b", b"c"), frozenset("bc"), ((), ())):
            self.check({("a", "b"): 2, key: 6}, ("form",))
        self.assertEqual(prices_fault(LONE, {("a", "b"): 0}), ("form",))
        self.assertEqual(prices_fault(LONE, None), ("form",))

    def test_place(self):
        self.check({("a", "b"): 3, ("b", "c"): 6}, ("place", "a"))
        self.check({("a", "b"): 2, ("b", "c"): 7}, ("place", "c"))
        self.check({("a", "b"): 3, ("b", "c"): 7}, ("place", "a"))
        self.check({("a", "b"): 0, ("b", "c"): 10 ** 5000}, ("place", "b"))
        self.check({("a", "b"): 2, ("b", "c"): 9}, ("place", "b"))

    def test_sum(self):
        self.check({("a", "b"): 2, ("b", "c"): 5}, ("sum",))
        self.check({("a", "b"): 0, ("b", "c"): 0}, ("sum",))
        self.check({("a", "b"): 2, ("b", "c"): 6}, None)

    def test_the_order_of_keys_means_nothing(self):
        self.check({("b", "c"): 6, ("a", "b"): 2}, None)
        self.check({("b", "c"): 7, ("a", "b"): 3}, ("place", "a"))

    def test_all_small_tie_prices(self):
        prices = {"a": 1, "b": 1, "c": 2}
        ties = [("a", "b"), ("a", "c"), ("b", "c")]
        web = Web(("a", "b", "c"), ties, prices)
        low, _ = best_of(listed("abc", ties, prices))
        for values in itertools.product(range(6), repeat=3):
            y = dict(zip(ties, values))
            over = [p for p in "abc" if sum(y[tie] for tie in ties if p in tie) > 2 * prices[p]]
            want = ("place", over[0]) if over else None if sum(values) == low else ("sum",)
            self.assertEqual(prices_fault(web, y), want)


if __name__ == "__main__":
    unittest.main()
