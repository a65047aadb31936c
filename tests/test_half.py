"""Half readings: best ones, what they have in common, and what they tell about readings (points 37 to 39)."""

import itertools
import random
import unittest

from halfpicked.clauses import (
    Clauses, half_cost, half_reading, half_worth, is_best_half, is_half, is_true, reading_cost,
)
from halfpicked.errors import NoHalf, NoReading, NotBest
from halfpicked.readings import half_fixed, half_kernel, half_least, half_merge, mended_reading, softened_half
from tests.support import (
    GREATEST, Columns, best_of, cut_values, cut_worth, half_listed, letters, odd_integers, odd_values, random_rows,
    small_clauses, told, true_readings, values_of,
)
from tests.test_steps import CLAUSES, FALSE, NO_READINGS

ONE = {"a": 1, "b": 1}
TWO = {"a": 2, "b": 2}
TRUE = {"a": True, "b": True}
# No half readings of CLAUSES: other names, other values, rows below 2.
NO_HALVES = [
    {}, {"a": 1}, {"a": 1, "b": 1, "c": 1}, {"a": 1, "c": 1}, {"a": 1, "b": 3}, {"a": -1, "b": 2}, {"a": 1, 1: 1},
    {"a": 0, "b": 1}, {"a": 0, "b": 0}, {"a": 2, "b": 0}, {"a": 2, "b": 1}, {"a": True, "b": True}, {"a": 1, "b": True},
    [("a", 1), ("b", 1)], ("a", "b"), {"a", "b"}, [1, 1], "ab", *odd_values(),
    *[{"a": value, "b": 1} for value in odd_integers()],
]


def free(names, price=1):
    """Clauses without rows."""
    return Clauses(tuple(names), [], dict.fromkeys(names, price))


class Example(unittest.TestCase):
    """The example behind point 40, as far as it is about half readings."""

    def test_the_only_best_half_reading(self):
        self.assertEqual(half_worth(CLAUSES), 4)
        self.assertEqual(half_reading(CLAUSES), ONE)
        self.assertEqual(half_least(CLAUSES), ONE)
        self.assertEqual(half_kernel(CLAUSES), ["a", "b"])
        self.assertEqual(half_fixed(CLAUSES), {})
        self.assertEqual((half_cost(CLAUSES, ONE), half_cost(CLAUSES, TWO)), (4, 8))
        self.assertIs(is_best_half(CLAUSES, ONE), True)
        self.assertIs(is_best_half(CLAUSES, TWO), False)

    def test_without_a_true_reading(self):
        self.assertEqual((half_worth(FALSE), half_reading(FALSE), half_kernel(FALSE)), (4, ONE, ["a", "b"]))
        self.assertIs(is_half(FALSE, TWO), False)


class SmallClauses(unittest.TestCase):

    def test_half_readings(self):
        for names, rows, prices in small_clauses():
            clauses = Clauses(tuple(names[::-1]), rows, prices)
            before = told(clauses)
            costs = half_listed(names, rows, prices)
            found = [x for _, x in costs]
            low, best = best_of(costs)
            self.assertEqual(half_worth(clauses), low)
            self.assertIn(half_reading(clauses), best)
            self.assertIn(dict.fromkeys(names, 1), found)
            for cost, x in costs[:200]:
                self.assertEqual(half_cost(clauses, x), cost)
            for values in itertools.islice(itertools.product((0, 1, 2), repeat=len(names)), 81):
                x = dict(zip(names, values))
                self.assertIs(is_half(clauses, x), x in found)
                self.assertIs(is_best_half(clauses, x), x in best)
                if x not in found:
                    self.assertRaises(NoHalf, half_cost, clauses, x)
            self.check_common(clauses, best)
            self.assertEqual(told(clauses), before)

    def check_common(self, clauses, best):
        values = {name: values_of(best, name) for name in clauses.names()}
        halves = [name for name in clauses.names() if values[name] == [1]]
        self.assertEqual(half_kernel(clauses), halves)
        x = half_least(clauses)
        self.assertIn(x, best)
        self.assertEqual([name for name in sorted(x) if x[name] == 1], halves)
        self.assertEqual(half_fixed(clauses), {n: values[n][0] for n in values if values[n] in ([0], [2])})
        self.assertTrue(all(type(value) is int for value in [*x.values(), *half_fixed(clauses).values()]))

    def test_merge(self):
        rng = random.Random(38)
        kinds = set()
        for names, rows, prices in small_clauses():
            clauses = Clauses(tuple(names), rows, prices)
            found = half_listed(names, rows, prices)
            low, best = best_of(found)
            for _ in range(6):
                first, second = rng.choice(best), rng.choice(best)
                olds = dict(first), dict(second)
                merged = half_merge(clauses, first, second)
                self.assertEqual(merged, {n: second[n] if first[n] == 1 else first[n] for n in names})
                self.assertIn(merged, best)
                self.assertEqual((first, second), olds)
                self.assertIsNot(merged, second)
                kinds.add((merged == first, merged == second))
            cost, x = rng.choice(found)
            if cost > low:
                for pair in ((x, best[0]), (best[0], x), (x, x)):
                    self.assertRaises(NotBest, half_merge, clauses, *pair)
        self.assertEqual(len(kinds), 4)

    def test_mended_and_softened(self):
        rng = random.Random(39)
        checked = 0
        for names, rows, prices in small_clauses():
            clauses = Clauses(tuple(names), rows, prices)
            found = half_listed(names, rows, prices)
            good = true_readings(names, rows)
            both = list(itertools.product(found, good))
            for (cost, x), reading in both if len(both) <= 12 else rng.sample(both, 12):
                self.check_both(clauses, cost, x, reading, good)
                checked += 1
        self.assertGreater(checked, 3000)

    def check_both(self, clauses, cost, x, reading, good):
        olds = dict(x), dict(reading)
        better = mended_reading(clauses, x, reading)
        self.assertEqual(better, {n: reading[n] if x[n] == 1 else x[n] == 2 for n in x})
        self.assertTrue(all(type(flag) is bool for flag in better.values()))
        self.assertIn(better, good)
        softer = softened_half(clauses, x, reading)
        changed = [n for n in x if (x[n], reading[n]) in ((2, False), (0, True))]
        self.assertEqual(softer, {n: 1 if n in changed else x[n] for n in x})
        self.assertTrue(all(type(value) is int for value in softer.values()))
        self.assertEqual((x, reading), olds)
        fall = reading_cost(clauses, reading) - reading_cost(clauses, better)
        self.assertEqual(fall, half_cost(clauses, softer) - cost)


class Edges(unittest.TestCase):

    def test_no_rows(self):
        clauses = free("ab")
        self.assertEqual((half_worth(clauses), half_reading(clauses)), (0, {"a": 0, "b": 0}))
        self.assertEqual((half_kernel(clauses), half_fixed(clauses)), ([], {"a": 0, "b": 0}))

    def test_price_zero(self):
        clauses = free("ab", 0)
        self.assertEqual(half_worth(clauses), 0)
        self.assertEqual((half_kernel(clauses), half_fixed(clauses)), ([], {}))
        self.assertTrue(all(is_best_half(clauses, {"a": a, "b": b}) for a in (0, 1, 2) for b in (0, 1, 2)))
        self.assertNotIn(1, half_least(clauses).values())

    def test_literals_twice(self):
        a, not_a = ("a", True), ("a", False)
        once = Clauses(("a",), [(a, a)], {"a": 5})
        self.assertEqual((half_worth(once), half_kernel(once), half_fixed(once)), (5, ["a"], {}))
        self.assertIs(is_half(once, {"a": 0}), False)
        self.assertEqual((half_cost(once, {"a": 1}), half_cost(once, {"a": 2})), (5, 10))
        both = once.with_row((not_a, not_a))
        self.assertIs(is_half(both, {"a": 2}), False)
        self.assertIs(is_half(both, {"a": 1}), True)
        none = Clauses(("a",), [(a, not_a)], {"a": 5})
        self.assertEqual((half_worth(none), half_fixed(none)), (0, {"a": 0}))
        down = Clauses(("a",), [(not_a, not_a)], {"a": 0})
        self.assertEqual((half_worth(down), half_kernel(down), half_fixed(down)), (0, [], {}))
        self.assertIs(is_best_half(down, {"a": 1}), True)
        self.assertIs(is_best_half(down, {"a": 2}), False)

    def test_values_that_steps_bring(self):
        # a leads to b and b to c: the price of a pays, and c is free.
        rows = [(("a", True), ("a", True)), (("a", False), ("b", True)), (("b", False), ("c", True))]
        clauses = Clauses(("a", "b", "c"), rows, {"a": 1, "b": 1, "c": 0})
        self.assertEqual((half_worth(clauses), half_kernel(clauses)), (2, ["a", "b"]))
        self.assertEqual(half_fixed(clauses), {})
        self.assertEqual(half_least(clauses), {"a": 1, "b": 1, "c": 2})

    def test_results_are_new(self):
        half_reading(CLAUSES).clear()
        half_kernel(CLAUSES).clear()
        half_least(CLAUSES).clear()
        half_fixed(free("a")).clear()
        self.assertEqual((half_reading(CLAUSES), half_least(CLAUSES)), (ONE, ONE))
        self.assertEqual((half_kernel(CLAUSES), half_fixed(free("a"))), (["a", "b"], {"a": 0}))


class WrongArguments(unittest.TestCase):

    def wrong(self, error, call, *args):
        with self.assertRaises(error) as caught:
            call(*args)
        self.assertIs(caught.exception.__class__, error)
        self.assertEqual(vars(caught.exception), {})

    def test_no_half_readings(self):
        for clauses in (CLAUSES, FALSE):
            for value in NO_HALVES:
                self.assertIs(is_half(clauses, value), False)
                self.assertIs(is_best_half(clauses, value), False)
                self.wrong(NoHalf, half_cost, clauses, value)
                self.wrong(NoHalf, half_merge, clauses, value, ONE)
                self.wrong(NoHalf, half_merge, clauses, ONE, value)
                self.wrong(NoHalf, mended_reading, clauses, value, TRUE)
                self.wrong(NoHalf, softened_half, clauses, value, None)

    def test_no_half_goes_before_not_best(self):
        self.wrong(NotBest, half_merge, CLAUSES, TWO, ONE)
        self.wrong(NotBest, half_merge, CLAUSES, ONE, TWO)
        self.wrong(NotBest, half_merge, CLAUSES, TWO, TWO)
        for value in NO_HALVES:
            self.wrong(NoHalf, half_merge, CLAUSES, TWO, value)
            self.wrong(NoHalf, half_merge, CLAUSES, value, TWO)

    def test_no_true_reading(self):
        for value in [*NO_READINGS, {"a": False, "b": True}, {"a": True, "b": False}, {"a": False, "b": False}]:
            self.wrong(NoReading, mended_reading, CLAUSES, ONE, value)
            self.wrong(NoReading, softened_half, CLAUSES, TWO, value)
            self.wrong(NoReading, mended_reading, FALSE, ONE, value)
        self.wrong(NoReading, softened_half, FALSE, ONE, TRUE)

    def test_names_of_the_interface(self):
        self.assertIs(is_half(x=ONE, clauses=CLAUSES), True)
        self.assertEqual(half_cost(x=TWO, clauses=CLAUSES), 8)
        self.assertEqual(half_worth(clauses=CLAUSES), 4)
        self.assertEqual(half_reading(clauses=CLAUSES), ONE)
        self.assertIs(is_best_half(x=TWO, clauses=CLAUSES), False)
        self.assertEqual(half_merge(second={"a": 0}, first={"a": 1}, clauses=free("a", 0)), {"a": 0})
        self.assertEqual(half_kernel(clauses=CLAUSES), ["a", "b"])
        self.assertEqual(half_least(clauses=CLAUSES), ONE)
        self.assertEqual(half_fixed(clauses=free("a")), {"a": 0})
        self.assertEqual(mended_reading(reading=TRUE, x=ONE, clauses=CLAUSES), TRUE)
        self.assertEqual(softened_half(reading=TRUE, x=TWO, clauses=CLAUSES), TWO)


class WideClauses(unittest.TestCase):

    def check(self, clauses, low, costs):
        """`costs` gives the least half cost for each value of each name, if there is one."""
        before = told(clauses)
        names = clauses.names()
        self.assertEqual(half_worth(clauses), low)
        x = half_reading(clauses)
        self.assertEqual(half_cost(clauses, x), low)
        self.assertIs(is_best_half(clauses, x), True)
        values = {name: [value for value in (0, 1, 2) if costs.get((name, value)) == low] for name in names}
        halves = [name for name in names if values[name] == [1]]
        self.assertEqual(half_kernel(clauses), halves)
        y = half_least(clauses)
        self.assertIs(is_best_half(clauses, y), True)
        self.assertEqual([name for name in names if y[name] == 1], halves)
        self.assertEqual(half_fixed(clauses), {n: values[n][0] for n in names if values[n] in ([0], [2])})
        self.assertIs(is_best_half(clauses, half_merge(clauses, x, y)), True)
        self.assertEqual(told(clauses), before)
        return halves

    def test_columns(self):
        rng = random.Random(37)
        sizes = set()
        for many, height, density in ((10, 4, 1), (10, 4, 0.4), (10, 4, 0.2), (20, 2, 1), (20, 2, 0.5), (40, 1, 0.9)):
            for price in (lambda: 1, lambda: rng.randint(0, 3), lambda: rng.randint(0, GREATEST), lambda: GREATEST):
                share = rng.choice((0.5, 0.7, 0.95))
                wide = Columns(
                    rng, many, height, density, price,
                    lambda a, b: ((a, rng.random() < share), (b, rng.random() < share)),
                )
                low, costs = wide.least_of({}), wide.marginals()
                sizes.add(len(self.check(wide.clauses, low, costs)))
        self.assertGreater(len(sizes), 6)

    def test_up_to_four_hundred_rows(self):
        rng = random.Random(36)
        names = letters(40)
        sizes = set()
        for size, top in itertools.product((30, 50, 80, 400), (1, GREATEST)):
            hidden = {name: rng.random() < 0.5 for name in names}
            rows = random_rows(rng, names, size, hidden if rng.random() < 0.8 else None)
            prices = {name: rng.randint(1, top) for name in names}
            clauses = Clauses(tuple(names), rows, prices)
            ends = cut_values(rows, prices)
            low = cut_worth(rows, prices)
            costs = {(name, value): low for name in names for value in range(ends[name][0], ends[name][1] + 1)}
            sizes.add(len(self.check(clauses, low, costs)))
        self.assertGreater(len(sizes), 3)

    def test_mended_in_wide_clauses(self):
        rng = random.Random(38)
        names = letters(40)
        for size, top in itertools.product((40, 400), (1, 3, GREATEST)):
            hidden = {name: rng.random() < 0.5 for name in names}
            prices = {name: rng.randint(0, top) for name in names}
            clauses = Clauses(tuple(names), random_rows(rng, names, size, hidden), prices)
            self.assertLessEqual(half_worth(clauses), 2 * reading_cost(clauses, hidden))
            x = half_least(clauses)
            better, softer = mended_reading(clauses, x, hidden), softened_half(clauses, x, hidden)
            self.assertIs(is_true(clauses, better), True)
            self.assertIs(is_half(clauses, softer), True)
            fall = reading_cost(clauses, hidden) - reading_cost(clauses, better)
            self.assertEqual(fall, half_cost(clauses, softer) - half_cost(clauses, x))
            self.assertGreaterEqual(fall, 0)


if __name__ == "__main__":
    unittest.main()
