"""Kernels (points 13 to 18)."""

import copy
import itertools
import random
import unittest

from halfpicked.errors import BadKept, BadValue, NoAnswer, NoPlace, NotBest
from halfpicked.halves import is_best, tie_prices, worth
from halfpicked.kernel import all_half, can, fixed, forced, kernel, least, loose, merge
from halfpicked.webs import Web
from tests.support import (
    GREATEST, best_of, listed, odd_integers, odd_values, same_field, small_webs, snapshot, values_of,
)

TIES = [("a", "b"), ("a", "c"), ("b", "c"), ("c", "d")]
WEB = Web(("a", "b", "c", "d"), TIES, {"a": 1, "b": 1, "c": 1, "d": 1})
BEST = [dict(zip("abcd", row)) for row in ((1, 1, 1, 1), (1, 1, 2, 0), (2, 0, 2, 0), (0, 2, 2, 0))]


class Example(unittest.TestCase):
    """The example behind point 18."""

    def test_best_answers(self):
        self.assertEqual(worth(WEB), 4)
        for values in itertools.product((0, 1, 2), repeat=4):
            x = dict(zip("abcd", values))
            self.assertIs(is_best(WEB, x), x in BEST)

    def test_kernel(self):
        self.assertEqual((kernel(WEB), fixed(WEB), loose(WEB)), ([], {}, ["a", "b"]))
        self.assertIs(all_half(WEB), False)
        self.assertIn(least(WEB), BEST[2:])

    def test_can(self):
        self.assertEqual([can(WEB, "c", x) for x in (0, 1, 2)], [False, True, True])
        self.assertEqual([can(WEB, "d", x) for x in (0, 1, 2)], [True, True, False])
        self.assertEqual([can(WEB, place, x) for place in "ab" for x in (0, 1, 2)], [True] * 6)

    def test_tie_prices(self):
        self.assertEqual(sum(tie_prices(WEB).values()), 4)

    def test_forced(self):
        self.assertEqual([forced(WEB, {"c": x}) for x in (0, 1, 2)], [6, 4, 4])
        self.assertEqual(forced(WEB, {"a": 2, "b": 2, "c": 2, "d": 2}), 8)
        self.assertIsNone(forced(WEB, {"c": 0, "d": 1}))


class SmallWebs(unittest.TestCase):

    def test_against_the_list(self):
        for places, ties, prices in small_webs():
            web = Web(tuple(places), ties, prices)
            shot = snapshot(web)
            _, best = best_of(listed(places, ties, prices))
            values = {place: values_of(best, place) for place in places}
            halves = [place for place in places if values[place] == [1]]
            self.assertEqual(kernel(web), halves)
            x = least(web)
            self.assertIn(x, best)
            self.assertEqual(sorted(place for place in x if x[place] == 1), halves)
            for place in places:
                found = [value for value in (0, 1, 2) if can(web, place, value) is True]
                self.assertEqual(found, values[place])
                self.assertTrue(all(can(web, place, value) is False for value in {0, 1, 2} - set(found)))
            whole = {place: values[place][0] for place in places if values[place] in ([0], [2])}
            self.assertEqual(fixed(web), whole)
            self.assertEqual(loose(web), [place for place in places if {0, 2} <= set(values[place])])
            self.assertIs(all_half(web), best == [dict.fromkeys(places, 1)])
            self.assertEqual(snapshot(web), shot)

    def test_merge(self):
        for places, ties, prices in itertools.islice(small_webs(), 0, None, 3):
            web = Web(tuple(places), ties, prices)
            _, best = best_of(listed(places, ties, prices))
            for a, b in itertools.product(best[:6], best[-6:]):
                found = merge(web, a, b)
                self.assertEqual(found, {place: a[place] if a[place] != 1 else b[place] for place in places})
                self.assertIn(found, best)

    def test_all_kept_dicts(self):
        rows = [row for row in small_webs() if len(row[0]) <= 3]
        for places, ties, prices in rows[::4]:
            self.check_kept(places, ties, prices, [
                {place: value for place, value in zip(places, values) if value is not None}
                for values in itertools.product((None, 0, 1, 2), repeat=len(places))
            ])

    def test_some_kept_dicts(self):
        rng = random.Random(5)
        for places, ties, prices in small_webs():
            if len(places) > 3:
                self.check_kept(places, ties, prices, [
                    {place: rng.choice((0, 1, 2)) for place in rng.sample(places, rng.randint(0, len(places)))}
                    for _ in range(6)
                ])

    def check_kept(self, places, ties, prices, rows):
        web = Web(tuple(places), ties, prices)
        found = listed(places, ties, prices)
        for kept in rows:
            costs = [price for price, x in found if all(x[place] == kept[place] for place in kept)]
            old = dict(kept)
            self.assertEqual(forced(web, kept), min(costs) if costs else None)
            self.assertEqual(kept, old)


class Merge(unittest.TestCase):

    def test_by_name(self):
        self.assertEqual(merge(b=BEST[2], a=BEST[1], web=WEB), BEST[2])
        self.assertEqual(merge(WEB, BEST[3], BEST[2]), BEST[3])
        self.assertEqual(merge(WEB, BEST[0], BEST[3]), BEST[3])

    def test_errors(self):
        dear = dict.fromkeys("abcd", 2)
        for value in (*odd_values(), {**BEST[0], "d": 0}, {**BEST[0], "d": True}, {**BEST[0], "e": 1}):
            for a, b in ((value, BEST[0]), (BEST[0], value), (value, dear), (dear, value), (value, value)):
                with self.assertRaises(NoAnswer) as caught:
                    merge(WEB, a, b)
                self.assertEqual(vars(caught.exception), {})
        for a, b in ((dear, BEST[0]), (BEST[0], dear), (dear, dear)):
            with self.assertRaises(NotBest) as caught:
                merge(WEB, a, b)
            self.assertEqual(vars(caught.exception), {})

    def test_arguments_and_results(self):
        a, b = dict(BEST[0]), dict(BEST[2])
        found = merge(WEB, a, b)
        self.assertEqual((a, b), (BEST[0], BEST[2]))
        found["a"] = 7
        self.assertEqual((a, b), (BEST[0], BEST[2]))
        a["a"] = b["b"] = 9
        self.assertEqual(found, {**BEST[2], "a": 7})
        found = merge(WEB, BEST[2], BEST[2])
        found.clear()
        self.assertEqual(BEST[2], {"a": 2, "b": 0, "c": 2, "d": 0})


class Can(unittest.TestCase):

    def test_by_name(self):
        self.assertIs(can(x=2, place="c", web=WEB), True)
        self.assertIs(can(x=0, place="c", web=WEB), False)

    def test_no_place(self):
        for value in (*odd_values(), "e", "ab"):
            for x in (0, 3, None, value):
                with self.assertRaises(NoPlace) as caught:
                    can(WEB, value, x)
                same_field(self, caught.exception, "place", value)

    def test_bad_value(self):
        for value in (-1, 3, 10 ** 5000, *odd_integers()):
            with self.assertRaises(BadValue) as caught:
                can(WEB, "a", value)
            same_field(self, caught.exception, "value", value)


class Forced(unittest.TestCase):

    def test_by_name(self):
        self.assertEqual(forced(kept={"d": 2}, web=WEB), 5)

    def test_empty(self):
        self.assertEqual(forced(WEB, {}), 4)
        self.assertEqual(forced(Web(("a",), [], {"a": 3}), {}), 0)

    def test_ties_of_kept_places(self):
        for a, b in itertools.product((0, 1, 2), repeat=2):
            found = forced(WEB, {"b": b, "a": a})
            self.assertIs(found is None, a + b < 2)

    def test_lone_place(self):
        web = Web(("a", "b"), [], {"a": GREATEST, "b": 3})
        self.assertEqual([forced(web, {"a": x}) for x in (0, 1, 2)], [0, GREATEST, 2 * GREATEST])

    def test_bad_kept(self):
        wrong = [{key: 1} for key in ("e", "", None, 1, True, ("a",), b"a", frozenset("a"), Ellipsis)]
        wrong += [{"a": value} for value in (-1, 3, 10 ** 5000, *odd_integers())]
        wrong += [{"a": 0, "b": 0, "c": 3}, {"a": 0, "b": 0, "e": 1}, [("a", 1)], ("a", 1), "a"]
        wrong += [value for value in odd_values() if value != {}]
        for kept in wrong:
            with self.assertRaises(BadKept) as caught:
                forced(WEB, kept)
            self.assertEqual(vars(caught.exception), {})


class Edges(unittest.TestCase):

    def test_without_ties(self):
        for names in (("a",), ("abcdefgh", "a")):
            web = Web(names, [], dict.fromkeys(names, 1))
            zero = dict.fromkeys(names, 0)
            self.assertEqual((kernel(web), least(web), fixed(web), loose(web)), ([], zero, zero, []))
            self.assertIs(all_half(web), False)
            self.assertEqual([can(web, "a", x) for x in (0, 1, 2)], [True, False, False])
            self.assertEqual(merge(web, zero, zero), zero)

    def test_all_half(self):
        for many in (3, 5, 7):
            names = "abcdefg"[:many]
            ring = Web(tuple(names), list(zip(names, names[1:] + names[:1])), dict.fromkeys(names, GREATEST))
            self.assertIs(all_half(ring), True)
            self.assertEqual(kernel(ring), list(names))
            self.assertEqual((least(ring), fixed(ring), loose(ring)), (dict.fromkeys(names, 1), {}, []))
            self.assertIs(all_half(ring.with_place("z")), False)

    def test_by_name(self):
        self.assertEqual((kernel(web=WEB), fixed(web=WEB), loose(web=WEB)), ([], {}, ["a", "b"]))
        self.assertIn(least(web=WEB), BEST)
        self.assertIs(all_half(web=WEB), False)

    def test_results_are_new(self):
        web = Web(("a", "b", "c", "d", "e", "f"), [*TIES[:3], ("d", "e"), ("e", "f")], dict.fromkeys("abcdef", 1))
        for call, want in ((kernel, ["a", "b", "c"]), (fixed, {"d": 0, "e": 2, "f": 0})):
            first = call(web)
            self.assertEqual(first, want)
            first.clear()
            self.assertEqual(call(web), want)
        loose(WEB).clear()
        self.assertEqual(loose(WEB), ["a", "b"])
        least(WEB).clear()
        self.assertEqual(sorted(least(WEB)), list("abcd"))

    def test_webs_stay_behind_errors(self):
        shot = snapshot(WEB)
        kept = {"a": 0, "b": [0]}
        old = copy.deepcopy(kept)
        self.assertRaises(BadKept, forced, WEB, kept)
        self.assertRaises(NoPlace, can, WEB, kept, kept)
        self.assertRaises(BadValue, can, WEB, "a", kept)
        self.assertRaises(NoAnswer, merge, WEB, kept, kept)
        self.assertEqual((snapshot(WEB), kept), (shot, old))


if __name__ == "__main__":
    unittest.main()
