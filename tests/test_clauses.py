"""The class Clauses (points 33 and 34)."""

import itertools
import random
import unittest

from halfpicked.clauses import Clauses
from halfpicked.errors import BadCost, BadNames, BadRow, NoName
from tests.support import GREATEST, letters, odd_integers, odd_values, random_rows, same_field, small_clauses, told

ROWS = [(("b", True), ("a", False)), (("a", True), ("a", True)), (("c", True), ("c", False))]
PRICES = {"a": 0, "b": GREATEST, "c": 7}
ROW = (("a", True), ("b", False))
# No literals over a, b, c.
NO_LITERALS = [
    ("a",), ("a", True, True), ["a", True], ("a", 1), ("a", 0), ("a", None), ("a", "True"), (True, "a"), ("z", True),
    ("", True), ("A", False), (b"a", True), (None, True), (["a"], True), ({}, False), ("a", [True]), "a", ("ab", True),
    {"a": True}, (("a", True),), *odd_values(),
]
WRONG_COSTS = (-1, GREATEST + 1, 10 ** 5000, -10 ** 5000, *odd_integers())


class Making(unittest.TestCase):

    def check(self, error, field, value, *args, **more):
        with self.assertRaises(error) as caught:
            Clauses(*args, **more)
        self.assertIs(caught.exception.__class__, error)
        self.assertEqual(list(vars(caught.exception)), [field])
        self.assertEqual(getattr(caught.exception, field), value)
        self.assertIs(getattr(caught.exception, field).__class__, value.__class__)

    def test_what_it_holds(self):
        clauses = Clauses(("c", "a", "b"), ROWS, PRICES)
        self.assertEqual(told(clauses), (["a", "b", "c"], ROWS, [0, GREATEST, 7], 3))
        self.assertEqual(told(Clauses(("zzzzzzzz",), [], {"zzzzzzzz": 0})), (["zzzzzzzz"], [], [0], 0))

    def test_names_of_the_interface(self):
        self.assertEqual(Clauses(prices=PRICES, rows=ROWS, names=("a", "b", "c")), Clauses(tuple("abc"), ROWS, PRICES))

    def test_wrong_names(self):
        for value in odd_values():
            if not isinstance(value, tuple):
                self.check(BadNames, "index", -1, value, ROWS, PRICES)
            if value != "zzzzzzzz":
                self.check(BadNames, "index", 1, ("a", value), ROWS, PRICES)
                self.check(BadNames, "index", 0, (value, "A"), ROWS, PRICES)
        for value in ((), ["a", "b", "c"], "abc", {"a": 1}, tuple(letters(41)), ("A",) * 41, ("a",) * 5000):
            self.check(BadNames, "index", -1, value, ROWS, PRICES)
        for names, index in (
            (("a", "b", "a"), 2), (("a", "a", "B"), 1), (("a", "b", ""), 2), (("a", "B", "a"), 1),
            (("abcdefghi",), 0), (("a", "b", "c d"), 2), ((("a",), "a"), 0), ((*letters(39), "aa"), 39),
        ):
            self.check(BadNames, "index", index, names, ROWS, PRICES)

    def test_wrong_rows(self):
        names = ("a", "b", "c")
        for value in odd_values():
            if not isinstance(value, list):
                self.check(BadRow, "index", -1, names, value, PRICES)
            self.check(BadRow, "index", 1, names, [ROW, value, value], PRICES)
        for value in NO_LITERALS:
            self.check(BadRow, "index", 0, names, [(value, ("a", True))], PRICES)
            self.check(BadRow, "index", 2, names, [ROW, ROW, (("a", True), value), ROW, value], PRICES)
        for value in (tuple(ROWS), {ROW: 1}, {ROW}, None, [ROW] * 401, [None] * 401):
            self.check(BadRow, "index", -1, names, value, PRICES)
        for row in (
            (ROW[0],), (*ROW, ROW[0]), list(ROW), (list(ROW[0]), ROW[1]), ("a", "b"), ("a", True), (ROW, ROW), ROW[0],
            ((("a", True), ("b", True)), ("a", True)), {}, set(ROW), dict(ROW),
        ):
            self.check(BadRow, "index", 400 - 1, names, [ROW] * 399 + [row], PRICES)

    def test_wrong_prices(self):
        names = ("c", "a", "b")
        for value in (
            *odd_values(), {}, {"a": 1, "b": 2}, {**PRICES, "d": 1}, {**PRICES, None: 1}, {"a": 1, "b": 1, "d": 1},
            list(PRICES), [("a", 1), ("b", 2), ("c", 3)], {"a": -1, "b": 2},
        ):
            self.check(BadCost, "name", "", names, ROWS, value)
        for value in WRONG_COSTS:
            self.check(BadCost, "name", "b", names, ROWS, {"c": value, "b": value, "a": 3})
            self.check(BadCost, "name", "a", names, ROWS, {"c": value, "b": 0, "a": value})
            self.check(BadCost, "name", "c", names, ROWS, {"c": value, "b": 0, "a": GREATEST})

    def test_order_of_errors(self):
        self.check(BadNames, "index", 0, ("A",), None, None)
        self.check(BadNames, "index", -1, None, [None], {})
        self.check(BadRow, "index", -1, ("a",), None, None)
        self.check(BadRow, "index", 0, ("a",), [None], {"a": -1})
        self.check(BadRow, "index", 0, prices={"a": -1}, rows=[None], names=("a",))
        self.check(BadNames, "index", 1, rows=[None], prices=None, names=("a", "a"))

    def test_limits(self):
        names = tuple(letters(40))
        rows = [((a, True), (b, False)) for a, b in itertools.product(names[:20], names[20:])]
        clauses = Clauses(names, rows, {name: at * GREATEST // 39 for at, name in enumerate(names)})
        self.assertEqual(told(clauses)[:2], (list(names), rows))
        self.assertEqual((len(clauses), clauses.price(names[0]), clauses.price(names[39])), (400, 0, GREATEST))

    def test_arguments_are_not_kept(self):
        rows, prices = list(ROWS), dict(PRICES)
        clauses = Clauses(("a", "b", "c"), rows, prices)
        before = told(clauses)
        rows.clear()
        prices["a"] = 5
        prices["d"] = 1
        self.assertEqual(told(clauses), before)
        clauses.names().append("z")
        clauses.rows().pop()
        self.assertEqual(told(clauses), before)
        self.assertIsNot(clauses.rows(), clauses.rows())

    def test_arguments_are_not_changed(self):
        rows, prices = list(ROWS), dict(PRICES)
        Clauses(("c", "b", "a"), rows, prices)
        self.assertEqual((rows, prices, list(prices)), (ROWS, PRICES, ["a", "b", "c"]))


class Methods(unittest.TestCase):

    def setUp(self):
        self.clauses = Clauses(("c", "a", "b"), ROWS, PRICES)
        self.before = told(self.clauses)

    def tearDown(self):
        self.assertEqual(told(self.clauses), self.before)

    def wrong(self, error, field, value, call, *args):
        with self.assertRaises(error) as caught:
            call(*args)
        self.assertIs(caught.exception.__class__, error)
        if error is BadRow:
            self.assertEqual(vars(caught.exception), {field: value})
        else:
            same_field(self, caught.exception, field, value)

    def test_price(self):
        self.assertEqual([self.clauses.price(name) for name in "abc"], [0, GREATEST, 7])
        self.assertEqual(self.clauses.price(name="c"), 7)
        for value in (*odd_values(), "d", "ab", ("a", True)):
            self.wrong(NoName, "name", value, self.clauses.price, value)

    def test_contains(self):
        for name in "abc":
            self.assertIs(name in self.clauses, True)
        for value in (*odd_values(), "d", "ab", ("a", True), ROW):
            self.assertIs(value in self.clauses, False)

    def test_equality(self):
        same = Clauses(("a", "b", "c"), list(ROWS), dict(reversed(PRICES.items())))
        self.assertTrue(self.clauses == same)
        self.assertFalse(self.clauses != same)
        for names, rows, prices in (
            (("a", "b", "c"), ROWS[::-1], PRICES), (("a", "b", "c"), ROWS[:2], PRICES),
            (("a", "b", "c"), [*ROWS, ROWS[0]], PRICES), (("a", "b", "c"), [ROWS[0][::-1], *ROWS[1:]], PRICES),
            (("a", "b", "c"), ROWS, {**PRICES, "a": 1}), (("a", "b", "c", "d"), ROWS, {**PRICES, "d": 0}),
            (("a", "b", "c"), [*ROWS[:2], ROWS[2][::-1]], PRICES), (("a", "b", "c"), [], PRICES),
        ):
            self.assertFalse(self.clauses == Clauses(names, rows, prices))
            self.assertTrue(self.clauses != Clauses(names, rows, prices))

    def test_with_row(self):
        new = self.clauses.with_row(ROW)
        self.assertEqual(new, Clauses(("a", "b", "c"), [*ROWS, ROW], PRICES))
        self.assertEqual(new.with_row(row=ROW).rows(), [*ROWS, ROW, ROW])
        for value in (*odd_values(), None, ROW[0], (ROW[0],), (*ROW, ROW[0]), list(ROW), [ROW]):
            self.wrong(BadRow, "index", 3, self.clauses.with_row, value)
        for value in NO_LITERALS:
            self.wrong(BadRow, "index", 3, self.clauses.with_row, (value, ROW[0]))
            self.wrong(BadRow, "index", 3, self.clauses.with_row, (ROW[0], value))

    def test_with_row_of_full_clauses(self):
        clauses = Clauses(("a", "b"), [ROW] * 399, {"a": 1, "b": 1})
        full = clauses.with_row(ROW[::-1])
        self.assertEqual((len(clauses), len(full), full.rows()[399]), (399, 400, ROW[::-1]))
        self.wrong(BadRow, "index", 399, clauses.with_row, None)
        for value in (ROW, None, (), ROW[0]):
            self.wrong(BadRow, "index", -1, full.with_row, value)
        self.assertEqual(len(full), 400)

    def test_with_cost(self):
        for price in (0, 1, GREATEST):
            self.assertEqual(self.clauses.with_cost("b", price), Clauses(tuple("abc"), ROWS, {**PRICES, "b": price}))
        self.assertEqual(self.clauses.with_cost(price=7, name="c"), self.clauses)
        for value in (*odd_values(), "d"):
            self.wrong(NoName, "name", value, self.clauses.with_cost, value, 1)
            self.wrong(NoName, "name", value, self.clauses.with_cost, value, -1)
        for value in WRONG_COSTS:
            self.wrong(BadCost, "name", "b", self.clauses.with_cost, "b", value)

    def test_small_clauses(self):
        for names, rows, prices in small_clauses():
            shuffled = tuple(reversed(names))
            clauses = Clauses(shuffled, rows, prices)
            self.assertEqual(told(clauses), (names, rows, [prices[name] for name in names], len(rows)))

    def test_steps_of_building(self):
        rng = random.Random(34)
        names = letters(40)
        rows = random_rows(rng, names, 60)
        prices = {name: rng.randint(0, GREATEST) for name in names}
        clauses = Clauses(tuple(names), [], dict.fromkeys(names, 0))
        for row in rows:
            clauses = clauses.with_row(row)
        for name in rng.sample(names, 40):
            clauses = clauses.with_cost(name, prices[name])
        self.assertEqual(clauses, Clauses(tuple(names), rows, prices))


if __name__ == "__main__":
    unittest.main()
