"""Covers (points 19 to 22, and the example behind point 23)."""

import itertools
import random
import unittest

from halfpicked import covers
from halfpicked.covers import (
    apart, best, count, cover_cost, cover_price, each, every, follow, gap, is_best_cover, is_cover, mended, never,
    softened, sure,
)
from halfpicked.errors import NoAnswer, NoCover, NotBest, TooMany
from halfpicked.halves import worth
from halfpicked.kernel import kernel
from halfpicked.webs import Web
from tests.support import (
    GREATEST, all_covers, best_covers, best_of, clusters, letters, listed, numbered, odd_values, pairs, same_field,
    small_webs, snapshot,
)

WEB = Web(("a", "b", "c"), [("a", "b"), ("a", "c"), ("b", "c")], {"a": 1, "b": 1, "c": 1})
ONE = {"a": 1, "b": 1, "c": 1}
# No covers of WEB: too few places, not ascending, a place twice, strangers, no tuple.
NO_COVERS = [
    ("b", "a"), ("a", "a"), ("a", "a", "b"), ("a", "b", "b"), ("a", "c", "b"), ("c", "b", "a"), ("a", "b", "z"),
    ("a", "b", "c", "d"), ("A", "a", "b"), ("a", "b", 1), ("a", "b", None), ("a", "b", ["c"]), (b"a", "b"),
    ("a", ("b",)), ["a", "b"], {"a", "b"}, {"a": 1, "b": 1}, "ab", ("ab",), frozenset("ab"), ("a",) * 5000,
    ("", "a", "b"), *odd_values(),
]


def wide_kernel(many, rest=0):
    """A web whose kernel has this many places (3 or more), and some whole places behind them."""
    groups, ties = clusters([3] * (many // 3 - many % 3) + [4] * (many % 3))
    assert sum(len(group) for group in groups) == many
    ties += [(at, at + 1) for at in range(many, many + rest - 1)]
    prices = [1] * many + [5 if at % 2 else 2 for at in range(rest)]
    return numbered(many + rest, ties, prices)


class Example(unittest.TestCase):
    """The example behind point 23."""

    def test_worth(self):
        self.assertEqual((worth(WEB), kernel(WEB)), (3, ["a", "b", "c"]))

    def test_covers(self):
        found = [("a", "b"), ("a", "c"), ("b", "c")]
        self.assertEqual((every(WEB), list(each(WEB)), count(WEB)), (found, found, 3))
        self.assertEqual((cover_cost(WEB), gap(WEB)), (2, 1))
        self.assertIn(best(WEB), found)
        self.assertIn(apart(WEB), [("a",), ("b",), ("c",)])
        self.assertEqual((sure(WEB), never(WEB)), ([], []))


class SmallWebs(unittest.TestCase):

    def test_best_covers(self):
        for places, ties, prices in small_webs():
            web = Web(tuple(places), ties, prices)
            shot = snapshot(web)
            least, found = best_covers(places, ties, prices)
            self.assertIn(best(web), found)
            self.assertIs(type(best(web)), tuple)
            self.assertEqual(cover_cost(web), least)
            half, _ = best_of(listed(places, ties, prices))
            self.assertEqual(gap(web), 2 * least - half)
            self.assertIn(apart(web), [tuple(p for p in places if p not in cover) for cover in found])
            self.assertEqual(snapshot(web), shot)

    def test_apart(self):
        for places, ties, prices in itertools.islice(small_webs(), 0, None, 3):
            free = [
                some for many in range(len(places) + 1) for some in itertools.combinations(places, many)
                if not any(a in some and b in some for a, b in ties)
            ]
            most = max(sum(prices[place] for place in some) for some in free)
            found = apart(Web(tuple(places), ties, prices))
            self.assertIn(found, free)
            self.assertEqual(sum(prices[place] for place in found), most)

    def test_all_sets(self):
        for places, ties, prices in itertools.islice(small_webs(), 0, None, 5):
            web = Web(tuple(places), ties, prices)
            least, _ = best_covers(places, ties, prices)
            good = all_covers(places, ties)
            for many in range(len(places) + 1):
                for some in itertools.combinations(places, many):
                    self.assertIs(is_cover(web, some), some in good)
                    cost = sum(prices[place] for place in some)
                    self.assertIs(is_best_cover(web, some), some in good and cost == least)
                    if some in good:
                        self.assertEqual(cover_price(web, some), cost)
                    else:
                        self.assertRaises(NoCover, cover_price, web, some)

    def test_mended_and_softened(self):
        rng = random.Random(11)
        for places, ties, prices in small_webs():
            web = Web(tuple(places), ties, prices)
            found = listed(places, ties, prices)
            good = all_covers(places, ties)
            both = list(itertools.product([x for _, x in found], good))
            for x, cover in both if len(both) <= 30 else rng.sample(both, 30):
                self.check_both(web, x, cover, good)

    def check_both(self, web, x, cover, good):
        old = dict(x)
        better = mended(web, x, cover)
        self.assertEqual(better, tuple(p for p in sorted(x) if x[p] == 2 or x[p] == 1 and p in cover))
        self.assertIn(better, good)
        softer = softened(web, x, cover)
        changed = [p for p in x if x[p] == 2 and p not in cover or x[p] == 0 and p in cover]
        self.assertEqual(softer, {p: 1 if p in changed else x[p] for p in x})
        self.assertTrue(all(softer[a] + softer[b] >= 2 for a, b in web.ties()))
        self.assertEqual(x, old)

        def price_of(some):
            return sum(web.price(place) for place in some)

        def cost_of(values):
            return sum(web.price(place) * value for place, value in values.items())

        self.assertEqual(price_of(cover) - price_of(better), cost_of(softer) - cost_of(x))

    def test_best_with_best(self):
        for places, ties, prices in itertools.islice(small_webs(), 0, None, 3):
            web = Web(tuple(places), ties, prices)
            _, answers = best_of(listed(places, ties, prices))
            _, found = best_covers(places, ties, prices)
            for x, cover in itertools.product(answers[:5], found[:5]):
                self.assertIn(mended(web, x, cover), found)
                self.assertIn(softened(web, x, cover), answers)

    def test_follow(self):
        for places, ties, prices in small_webs():
            web = Web(tuple(places), ties, prices)
            _, answers = best_of(listed(places, ties, prices))
            _, found = best_covers(places, ties, prices)
            for x in answers:
                old = dict(x)
                cover = follow(web, x)
                self.assertIn(cover, found)
                self.assertTrue(all(p in cover for p in x if x[p] == 2))
                self.assertFalse(any(p in cover for p in x if x[p] == 0))
                self.assertEqual(x, old)


class Forms(unittest.TestCase):

    def test_is_cover(self):
        for value in NO_COVERS:
            self.assertIs(is_cover(WEB, value), False)
            self.assertIs(is_best_cover(WEB, value), False)
            with self.assertRaises(NoCover) as caught:
                cover_price(WEB, value)
            self.assertEqual(vars(caught.exception), {})
        self.assertIs(is_cover(WEB, ("a", "b", "c")), True)
        self.assertIs(is_best_cover(WEB, ("a", "b", "c")), False)
        self.assertIs(is_best_cover(WEB, ("a", "c")), True)

    def test_without_ties(self):
        web = Web(("b", "a"), [], {"a": GREATEST, "b": 3})
        self.assertIs(is_cover(web, ()), True)
        self.assertIs(is_cover(web, ("a", "b")), True)
        self.assertIs(is_cover(web, ("b", "a")), False)
        self.assertEqual([cover_price(web, some) for some in ((), ("a",), ("a", "b"))], [0, GREATEST, GREATEST + 3])
        self.assertEqual((best(web), cover_cost(web), gap(web), apart(web)), ((), 0, 0, ("a", "b")))
        self.assertIs(is_best_cover(web, ()), True)
        self.assertIs(is_best_cover(web, ("b",)), False)
        self.assertEqual(follow(web, {"a": 0, "b": 0}), ())
        self.assertEqual(mended(web, {"a": 2, "b": 1}, ("b",)), ("a", "b"))
        self.assertEqual(mended(web, {"a": 0, "b": 1}, ("a",)), ())
        self.assertEqual(softened(web, {"a": 2, "b": 0}, ("b",)), {"a": 1, "b": 1})
        lone = Web(("q",), [], {"q": 1})
        self.assertEqual((best(lone), apart(lone), cover_cost(lone), gap(lone)), ((), ("q",), 0, 0))

    def test_two_sides(self):
        ties = list(itertools.product("abc", "xyz"))
        web = Web(tuple("xaybzc"), ties, {"a": 2, "b": 3, "c": GREATEST, "x": 1, "y": 1, "z": 1})
        self.assertEqual((best(web), apart(web), cover_cost(web), gap(web)), (("x", "y", "z"), ("a", "b", "c"), 3, 0))

    def test_odd_rings(self):
        for many in (3, 5, 7, 9, 21):
            names = letters(many)
            ring = Web(tuple(names), list(zip(names, names[1:] + names[:1])), dict.fromkeys(names, GREATEST))
            self.assertEqual(cover_cost(ring), (many + 1) // 2 * GREATEST)
            self.assertEqual(gap(ring), GREATEST)
            self.assertIs(is_cover(ring, best(ring)), True)
            self.assertEqual(len(apart(ring)), many // 2)
            self.assertEqual(count(ring), many)

    def test_by_name(self):
        x = {"a": 1, "b": 2, "c": 0}
        self.assertIs(is_cover(cover=("a", "b"), web=WEB), True)
        self.assertEqual(cover_price(cover=("a", "b"), web=WEB), 2)
        self.assertIs(is_best_cover(cover=("a", "b"), web=WEB), True)
        for function in (best, cover_cost, gap, apart):
            self.assertEqual(function(web=WEB), function(WEB))
        web = WEB.without_tie("a", "c")
        self.assertEqual(mended(cover=("a", "c"), x=x, web=web), ("a", "b"))
        self.assertEqual(softened(cover=("a", "c"), x=x, web=web), {"a": 1, "b": 1, "c": 1})
        self.assertEqual(follow(x={"a": 0, "b": 2, "c": 0}, web=web), ("b",))

    def test_softened_is_new(self):
        x = dict(ONE)
        found = softened(WEB, x, ("a", "b"))
        self.assertEqual(found, ONE)
        found["a"] = 9
        self.assertEqual(x, ONE)
        self.assertEqual(softened(WEB, x, ("a", "b")), ONE)


class Errors(unittest.TestCase):

    def test_no_answer(self):
        wrong = [*odd_values(), {**ONE, "a": 0}, {**ONE, "a": True}, {**ONE, "d": 1}, {"a": 2, "b": 2}]
        for x in wrong:
            for function, rest in ((mended, (("a", "b"),)), (mended, (x,)), (mended, (None,)), (softened, ((),)),
                                   (softened, (("b", "c"),)), (softened, (x,)), (follow, ())):
                with self.assertRaises(NoAnswer) as caught:
                    function(WEB, x, *rest)
                self.assertEqual(vars(caught.exception), {})

    def test_no_cover(self):
        for value in NO_COVERS:
            for function in (mended, softened):
                for x in (ONE, {"a": 2, "b": 2, "c": 2}):
                    with self.assertRaises(NoCover) as caught:
                        function(WEB, x, value)
                    self.assertEqual(vars(caught.exception), {})

    def test_not_best(self):
        for x in ({"a": 2, "b": 2, "c": 0}, dict.fromkeys("abc", 2)):
            with self.assertRaises(NotBest) as caught:
                follow(WEB, x)
            self.assertEqual(vars(caught.exception), {})


class Limits(unittest.TestCase):

    def too_many(self, function, *given):
        with self.assertRaises(TooMany) as caught:
            function(*given)
        same_field(self, caught.exception, "limit", 22)

    def test_kernel_of_22(self):
        for rest in (0, 18):
            web = wide_kernel(22, rest)
            self.assertEqual(len(kernel(web)), 22)
            # All but one of each of six groups of 3 and a group of 4, then the cheap places of the path.
            least = 6 * 2 + 3 + 2 * (rest // 2)
            self.assertEqual(cover_cost(web), least)
            self.assertEqual(gap(web), 2 * least - worth(web))
            self.assertEqual(cover_price(web, best(web)), least)
            self.assertEqual(sorted(best(web) + apart(web)), web.places())
            self.assertIs(is_best_cover(web, best(web)), True)
            self.assertIs(is_best_cover(web, tuple(web.places())), False)
            whole = {place: 2 if at % 2 == 0 else 0 for at, place in enumerate(web.places())}
            x = {place: 1 if at < 22 else whole[place] for at, place in enumerate(web.places())}
            cover = follow(web, x)
            self.assertEqual(cover_price(web, cover), least)
            self.assertEqual([p for p in cover if x[p] != 1], [p for p in x if x[p] == 2])

    def test_kernel_of_23(self):
        for rest in (0, 17):
            web = wide_kernel(23, rest)
            self.assertEqual(len(kernel(web)), 23)
            for function in (best, cover_cost, gap, apart):
                self.too_many(function, web)
            self.too_many(is_best_cover, web, tuple(web.places()))
            for value in ((), None, web.places(), tuple(web.places()[::-1]), tuple(web.places()[1:20])):
                self.assertIs(is_best_cover(web, value), False)

    def test_follow_beyond(self):
        web = wide_kernel(23)
        one = dict.fromkeys(web.places(), 1)
        self.too_many(follow, web, one)
        self.assertRaises(NotBest, follow, web, dict.fromkeys(web.places(), 2))
        self.assertRaises(NoAnswer, follow, web, dict.fromkeys(web.places(), 0))
        self.assertRaises(NoAnswer, follow, web, None)

    def test_no_limit(self):
        web = wide_kernel(23, 17)
        names = tuple(web.places())
        self.assertIs(is_cover(web, names), True)
        self.assertEqual(cover_price(web, names), sum(web.price(place) for place in names))
        one = dict.fromkeys(names, 1)
        self.assertEqual(mended(web, one, names), names)
        self.assertEqual(mended(web, dict.fromkeys(names, 2), names[1:]), names)
        self.assertEqual(softened(web, one, names[1:]), one)
        self.assertEqual(softened(web, dict.fromkeys(names, 2), names[1:]), {**dict.fromkeys(names, 2), names[0]: 1})

    def test_many_halves_and_no_kernel(self):
        # The limit asks for the kernel, not for the halves of x: here all 40 places are half, none in the kernel.
        ties = [(at, at + 1) for at in range(0, 40, 2)]
        web = numbered(40, ties)
        self.assertEqual(kernel(web), [])
        cover = follow(web, dict.fromkeys(web.places(), 1))
        self.assertIs(is_best_cover(web, cover), True)
        self.assertEqual((len(cover), cover_cost(web), gap(web)), (20, 20, 0))

    def test_dense_webs_of_40(self):
        web = numbered(40, pairs(range(40))[:400], [GREATEST] * 40)
        names = tuple(web.places())
        self.assertIs(is_cover(web, names), True)
        self.assertEqual(cover_price(web, names), 40 * GREATEST)
        self.assertEqual(mended(web, dict.fromkeys(names, 1), names[:39]), names[:39])
        x = dict(zip(names, [2] * 12 + [0] * 20 + [1] * 8))
        self.assertEqual(mended(web, x, names[:39]), names[:12] + names[32:39])
        self.assertEqual(softened(web, x, names[:39]), dict(zip(names, [2] * 12 + [1] * 28)))
        self.assertEqual(softened(web, x, names[1:]), {**dict(zip(names, [2] * 12 + [1] * 28)), names[0]: 1})
        self.assertEqual(cover_cost(web), len(best(web)) * GREATEST)
        self.assertIs(is_cover(web, best(web)), True)

    def test_the_limit_itself(self):
        self.assertEqual((covers.MOST_SEARCHED, covers.MOST_LISTED), (22, 2000))


if __name__ == "__main__":
    unittest.main()
