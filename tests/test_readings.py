"""Cheapest readings, and clauses that are made of a web (point 40)."""

import itertools
import random
import unittest

from halfpicked.clauses import Clauses, half_reading, half_worth, is_half, is_true, reading_cost, truth
from halfpicked.covers import cover_cost, every, never, sure
from halfpicked.errors import NoTruth, TooMany
from halfpicked.halves import is_answer, is_best, worth
from halfpicked.kernel import fixed, kernel
from halfpicked.readings import (
    best_cost, best_reading, half_fixed, half_kernel, half_least, of_web, sure_names,
)
from halfpicked.webs import Web
from tests.support import (
    GREATEST, Columns, cheapest_readings, clusters, letters, listed, numbered, pairs, random_rows, small_clauses,
    small_webs, snapshot, told, true_readings,
)
from tests.test_steps import CLAUSES, FALSE


def sure_of(names, best):
    """The names that are True in all of these readings, and those that are False in all of them."""
    return tuple([name for name in sorted(names) if all(x[name] is flag for x in best)] for flag in (True, False))


def beside(one, two):
    """The clauses with the names, the rows and the prices of both."""
    prices = {name: part.price(name) for part in (one, two) for name in part.names()}
    return Clauses(tuple(prices), one.rows() + two.rows(), prices)


def wide_kernel(many):
    """Clauses with this many names (3 or more), all of them in the half kernel."""
    groups, ties = clusters([3] * (many // 3 - many % 3) + [4] * (many % 3))
    assert sum(len(group) for group in groups) == many
    return of_web(numbered(many, ties))


def free(many, price):
    """Clauses with this many names and without rows."""
    names = ["f" + name for name in letters(many)]
    return Clauses(tuple(names), [], dict.fromkeys(names, price))


def hidden_row(rng, a, b, hidden):
    """A row of the two names that is true in the reading."""
    flags = [(f, g) for f in (True, False) for g in (True, False) if hidden[a] == f or hidden[b] == g]
    f, g = rng.choice(flags)
    return ((a, f), (b, g))


class Checks(unittest.TestCase):

    def check_best(self, clauses, low):
        """The cheapest readings have this cost."""
        found = best_reading(clauses)
        self.assertIs(is_true(clauses, found), True)
        self.assertTrue(all(type(flag) is bool for flag in found.values()))
        self.assertEqual(reading_cost(clauses, found), low)
        self.assertEqual(best_cost(clauses), low)
        self.assertGreaterEqual(2 * low, half_worth(clauses))

    def check_sure(self, clauses, both):
        found = sure_names(clauses)
        self.assertIs(type(found), tuple)
        self.assertEqual(found, both)
        values = half_fixed(clauses)
        for value, names in ((2, found[0]), (0, found[1])):
            self.assertLessEqual({name for name in values if values[name] == value}, set(names))


class Example(Checks):
    """The example behind point 40."""

    def test_cheapest_reading(self):
        self.assertEqual(best_reading(CLAUSES), {"a": True, "b": True})
        self.assertEqual(best_cost(CLAUSES), 4)
        self.assertEqual(sure_names(CLAUSES), (["a", "b"], []))

    def test_no_true_reading(self):
        for call in (best_reading, best_cost, sure_names):
            self.assertRaises(NoTruth, call, FALSE)


class SmallClauses(Checks):

    def test_cheapest_readings(self):
        for names, rows, prices in small_clauses():
            clauses = Clauses(tuple(names), rows, prices)
            before = told(clauses)
            if true_readings(names, rows):
                low, best = cheapest_readings(names, rows, prices)
                self.check_best(clauses, low)
                self.assertIn(best_reading(clauses), best)
                self.check_sure(clauses, sure_of(names, best))
            else:
                for call in (best_reading, best_cost, sure_names):
                    with self.assertRaises(NoTruth) as caught:
                        call(clauses)
                    self.assertEqual(vars(caught.exception), {})
            self.assertEqual(told(clauses), before)

    def test_more_names(self):
        rng = random.Random(40)
        for many in (6, 7, 8):
            names = letters(many)
            for _ in range(40):
                hidden = {name: rng.random() < 0.5 for name in names}
                rows = random_rows(rng, names, rng.randint(many // 2, 2 * many), hidden)
                prices = {name: rng.randint(0, rng.choice((1, 3, GREATEST))) for name in names}
                low, best = cheapest_readings(names, rows, prices)
                clauses = Clauses(tuple(names), rows, prices)
                self.check_best(clauses, low)
                self.check_sure(clauses, sure_of(names, best))

    def test_a_sure_name_that_is_not_fixed(self):
        # One half at each of the three places costs as much as a cover, with x being dearer than the others.
        triangle = of_web(Web(("a", "b", "x"), pairs("abx"), {"a": 2, "b": 2, "x": 3}))
        self.assertEqual((half_kernel(triangle), half_fixed(triangle)), (["a", "b", "x"], {}))
        self.assertEqual(sure_names(triangle), (["a", "b"], ["x"]))

    def test_results_are_new(self):
        best_reading(CLAUSES).clear()
        sure_names(CLAUSES)[0].clear()
        self.assertEqual(best_reading(CLAUSES), {"a": True, "b": True})
        self.assertEqual(sure_names(CLAUSES), (["a", "b"], []))

    def test_names_of_the_interface(self):
        self.assertEqual(best_reading(clauses=CLAUSES), {"a": True, "b": True})
        self.assertEqual((best_cost(clauses=CLAUSES), sure_names(clauses=CLAUSES)), (4, (["a", "b"], [])))
        self.assertEqual(of_web(web=numbered(1, [])), Clauses(("aa",), [], {"aa": 1}))


class Limits(Checks):

    def too_many(self, call, clauses):
        with self.assertRaises(TooMany) as caught:
            call(clauses)
        self.assertEqual(vars(caught.exception), {"limit": 18})

    def test_half_kernel(self):
        for many in (17, 18):
            clauses = wide_kernel(many)
            self.assertEqual(len(half_kernel(clauses)), many)
            self.check_best(clauses, many - many // 3)
            self.check_sure(clauses, ([], []))
        for many in (19, 20, 40):
            clauses = wide_kernel(many)
            self.assertEqual(len(half_kernel(clauses)), many)
            for call in (best_reading, best_cost, sure_names):
                self.too_many(call, clauses)

    def test_names_that_are_not_fixed(self):
        for many in (18, 22):
            clauses = beside(free(many, 5), wide_kernel(18))
            self.check_best(clauses, 12)
            self.check_sure(clauses, ([], free(many, 5).names()))
        clauses = beside(free(1, 0), wide_kernel(18))
        self.assertEqual((len(half_kernel(clauses)), half_fixed(clauses)), (18, {}))
        self.check_best(clauses, 12)
        self.too_many(sure_names, clauses)
        self.check_sure(beside(free(1, 0), wide_kernel(17)), ([], []))

    def test_free_names(self):
        self.check_sure(free(18, 0), ([], []))
        self.too_many(sure_names, free(19, 0))
        self.check_best(free(40, 0), 0)
        self.check_best(free(40, GREATEST), 0)
        self.check_sure(free(40, 1), ([], free(40, 1).names()))

    def test_no_truth_goes_first(self):
        twice = [(("z", flag), ("z", flag)) for flag in (True, False)]
        for many in (18, 19, 39):
            clauses = beside(wide_kernel(many), Clauses(("z",), twice, {"z": 1}))
            self.assertEqual(len(half_kernel(clauses)), many + 1)
            for call in (best_reading, best_cost, sure_names):
                self.assertRaises(NoTruth, call, clauses)


class WideClauses(Checks):

    def flag_lists(self, flags):
        return tuple([name for name in flags if flags[name] == [flag]] for flag in (True, False))

    def test_columns_of_eighteen(self):
        rng = random.Random(41)
        seen = set()
        for many, height in ((6, 3), (9, 2), (3, 6)):
            for density in (0.2, 0.4, 0.7):
                for price in (lambda: 1, lambda: rng.randint(0, 2), lambda: rng.randint(1, GREATEST)):
                    hidden = {name: rng.random() < 0.5 for name in letters(18)}
                    wide = Columns(rng, many, height, density, price, lambda a, b: hidden_row(rng, a, b, hidden))
                    self.check_best(wide.clauses, wide.cover_cost())
                    self.check_sure(wide.clauses, self.flag_lists(wide.flags()))
                    seen.add(len(half_kernel(wide.clauses)))
        self.assertGreater(len(seen), 4)

    def test_columns_of_forty(self):
        rng = random.Random(42)
        counts = {"best": 0, "sure": 0, "many": 0, "none": 0}
        for density in (0.15, 0.2, 0.3, 0.5, 1):
            for low, top in ((1, 1), (0, 3), (1, GREATEST)):
                for share in (0.2, 0.5, 0.8):
                    wide = Columns(
                        rng, 10, 4, density, lambda: rng.randint(low, top),
                        lambda a, b: ((a, rng.random() < share), (b, rng.random() < share)),
                    )
                    self.check_wide(wide, counts)
        self.assertGreater(min(counts.values()), 2)

    def check_wide(self, wide, counts):
        clauses = wide.clauses
        low = wide.cover_cost()
        if low is None:
            self.assertIsNone(truth(clauses))
            self.assertRaises(NoTruth, best_cost, clauses)
            counts["none"] += 1
            return
        if len(half_kernel(clauses)) > 18:
            self.assertRaises(TooMany, best_reading, clauses)
            counts["many"] += 1
            return
        self.check_best(clauses, low)
        counts["best"] += 1
        if len(half_fixed(clauses)) >= 22:
            self.check_sure(clauses, self.flag_lists(wide.flags()))
            counts["sure"] += 1
        else:
            self.assertRaises(TooMany, sure_names, clauses)

    def test_parts(self):
        rng = random.Random(43)
        for _ in range(12):
            whole, low, flags = None, 0, {}
            names = letters(18)
            rng.shuffle(names)
            for at in range(0, 18, 6):
                some = sorted(names[at:at + 6])
                rows = random_rows(rng, some, rng.randint(4, 12), {name: rng.random() < 0.5 for name in some})
                part = Clauses(tuple(some), rows, {name: rng.randint(0, 3) for name in some})
                cost, best = cheapest_readings(some, rows, {name: part.price(name) for name in some})
                low += cost
                flags.update({name: sorted({x[name] for x in best}) for name in some})
                whole = part if whole is None else beside(whole, part)
            self.check_best(whole, low)
            self.check_sure(whole, self.flag_lists(dict(sorted(flags.items()))))


class OfWeb(Checks):

    def test_what_it_holds(self):
        web = Web(("c", "a", "b"), [("c", "b"), ("b", "a")], {"a": 1, "b": GREATEST, "c": 3})
        rows = [(("a", True), ("b", True)), (("b", True), ("c", True))]
        self.assertEqual(told(of_web(web)), (["a", "b", "c"], rows, [1, GREATEST, 3], 2))

    def test_small_webs(self):
        for places, ties, prices in itertools.islice(small_webs(), 0, None, 2):
            web = Web(tuple(places), ties, prices)
            shot = snapshot(web)
            clauses = of_web(web)
            self.assertEqual(clauses.rows(), [((a, True), (b, True)) for a, b in web.ties()])
            self.assertEqual((half_worth(clauses), half_kernel(clauses)), (worth(web), kernel(web)))
            self.assertEqual(half_fixed(clauses), fixed(web))
            self.assertTrue(is_best(web, half_reading(clauses)) and is_best(web, half_least(clauses)))
            for _, x in listed(places, ties, prices)[:40]:
                self.assertIs(is_half(clauses, x), True)
            for values in itertools.islice(itertools.product((0, 1, 2), repeat=len(places)), 27):
                x = dict(zip(places, values))
                self.assertIs(is_half(clauses, x), is_answer(web, x))
            self.check_best(clauses, cover_cost(web))
            best = best_reading(clauses)
            self.assertIn(tuple(place for place in places if best[place]), every(web))
            self.check_sure(clauses, (sure(web), never(web)))
            self.assertEqual(snapshot(web), shot)

    def test_wide_webs(self):
        rng = random.Random(44)
        for size in (20, 40, 70, 400):
            names = letters(40)
            web = Web(tuple(names), rng.sample(pairs(names), size), {name: rng.randint(1, 3) for name in names})
            clauses = of_web(web)
            self.assertEqual(told(clauses)[0], web.places())
            self.assertEqual((len(clauses), half_worth(clauses)), (size, worth(web)))
            self.assertEqual((half_kernel(clauses), half_fixed(clauses)), (kernel(web), fixed(web)))
            if len(kernel(web)) <= 18:
                self.check_best(clauses, cover_cost(web))
            self.assertIs(is_true(clauses, dict.fromkeys(names, True)), True)


if __name__ == "__main__":
    unittest.main()
