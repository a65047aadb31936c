"""Whole webs (points 24 to 26)."""

import functools
import itertools
import random
import unittest

from halfpicked.covers import is_best_cover
from halfpicked.errors import TooMany
from halfpicked.halves import prices_fault, worth
from halfpicked.kernel import kernel
from halfpicked.webs import Web
from halfpicked.whole import is_whole, least_whole, odd, whole_paper
from tests.support import (
    GREATEST, Columns, all_covers, best_covers, best_of, clusters, letters, listed, numbered, pairs, small_webs,
    snapshot, subsets,
)


def has_two_sides(places, ties):
    """Whether some choice of one side has one place of each tie."""
    return any(all((a in side) != (b in side) for a, b in ties) for side in subsets(places))


def ring_web(many, rng=None, price=1):
    """A ring of this many places, with scattered names if there is a source for them."""
    names = letters(many)
    if rng:
        rng.shuffle(names)
    return Web(tuple(names), list(zip(names, names[1:] + names[:1])), dict.fromkeys(names, price))


class SmallWebs(unittest.TestCase):

    def test_whole(self):
        for places, ties, prices in small_webs():
            web = Web(tuple(places), ties, prices)
            shot = snapshot(web)
            half, answers = best_of(listed(places, ties, prices))
            least, found = best_covers(places, ties, prices)
            whole = any(1 not in x.values() for x in answers)
            self.assertEqual(whole, 2 * least == half)
            self.assertIs(is_whole(web), whole)
            paper = whole_paper(web)
            if whole:
                self.check_paper(web, paper, least, found)
            else:
                self.assertIsNone(paper)
            self.assertEqual(snapshot(web), shot)

    def check_paper(self, web, paper, least, found):
        self.assertIs(type(paper), tuple)
        cover, y = paper
        self.assertIn(cover, found)
        self.assertEqual(sorted(y), web.ties())
        self.assertTrue(all(type(price) is int and price >= 0 for price in y.values()))
        for place in web.places():
            self.assertLessEqual(sum(y[tie] for tie in y if place in tie), 2 * web.price(place))
        self.assertEqual(sum(y.values()), 2 * least)

    def test_odd(self):
        for places, ties, prices in small_webs():
            web = Web(tuple(places), ties, prices)
            ring = odd(web)
            if has_two_sides(places, ties):
                self.assertIsNone(ring)
                self.assertIs(is_whole(web), True)
            else:
                check_ring(self, web, ring)

    def test_least_whole(self):
        webs = [row for row in small_webs() if len(row[0]) < 6] + [row for row in small_webs() if len(row[0]) == 6][::4]
        for places, ties, prices in webs:
            web = Web(tuple(places), ties, prices)
            for gone in subsets(places):
                rest = [place for place in places if place not in gone]
                some = [(a, b) for a, b in ties if a in rest and b in rest]
                half, _ = best_of(listed(rest, some, prices))
                least, _ = best_covers(rest, some, prices)
                if half == 2 * least:
                    break
            self.assertEqual(least_whole(web), gone)
            self.assertIs(type(least_whole(web)), list)


def check_ring(test, web, ring):
    """The list is a ring of the web with an odd number of places."""
    test.assertIs(type(ring), list)
    test.assertGreaterEqual(len(ring), 3)
    test.assertEqual(len(ring) % 2, 1)
    test.assertEqual(len(set(ring)), len(ring))
    for a, b in zip(ring, ring[1:] + ring[:1]):
        test.assertIn(b, web.near(a))


class Whole(unittest.TestCase):

    def test_a_ring_in_a_whole_web(self):
        web = Web(("a", "b", "c"), pairs("abc"), {"a": 5, "b": 1, "c": 1})
        self.assertIs(is_whole(web), True)
        self.assertEqual(whole_paper(web), (("b", "c"), {("a", "b"): 2, ("a", "c"): 2, ("b", "c"): 0}))
        self.assertEqual(sorted(odd(web)), ["a", "b", "c"])
        self.assertEqual(least_whole(web), [])

    def test_without_ties(self):
        for names in (("a",), ("b", "a")):
            web = Web(names, [], dict.fromkeys(names, GREATEST))
            self.assertIs(is_whole(web), True)
            self.assertEqual(whole_paper(web), ((), {}))
            self.assertIsNone(odd(web))
            self.assertEqual(least_whole(web), [])

    def test_several_parts(self):
        # A path, a ring of 4, and then the only odd ring.
        ties = [(0, 1), (1, 2), (3, 4), (4, 5), (5, 6), (3, 6), (7, 8), (8, 9), (7, 9)]
        web = numbered(10, ties)
        check_ring(self, web, odd(web))
        self.assertEqual(sorted(odd(web)), web.places()[7:])
        self.assertIs(is_whole(web), False)
        self.assertIsNone(whole_paper(web))
        self.assertEqual(least_whole(web), [web.places()[7]])
        without = web.without_tie(web.places()[7], web.places()[8])
        self.assertIsNone(odd(without))
        self.assertIs(is_whole(without), True)

    def test_by_name(self):
        web = ring_web(3)
        self.assertIs(is_whole(web=web), False)
        self.assertIsNone(whole_paper(web=web))
        self.assertEqual(len(odd(web=web)), 3)
        self.assertEqual(least_whole(web=web), web.places()[:1])

    def test_results_are_new(self):
        web = ring_web(5)
        odd(web).clear()
        check_ring(self, web, odd(web))
        least_whole(web).clear()
        self.assertEqual(least_whole(web), web.places()[:1])
        two = ring_web(4)
        whole_paper(two)[1].clear()
        self.assertIsNone(prices_fault(two, whole_paper(two)[1]))


class WideWebs(unittest.TestCase):

    def test_columns(self):
        rng = random.Random(23)
        kinds = []
        for many, rows, density in ((20, 2, 0.6), (13, 3, 0.5), (10, 4, 0.4), (8, 5, 0.2)):
            for top in (1, 3, GREATEST):
                wide = Columns(rng, many, rows, density, lambda: rng.randint(1, top))
                whole = 2 * wide.cover_cost() == wide.least_of({})
                kinds.append(whole)
                self.assertIs(is_whole(wide.web), whole)
                paper = whole_paper(wide.web)
                self.assertEqual(paper is not None, whole)
                if whole:
                    self.assertEqual(sum(wide.prices[place] for place in paper[0]), wide.cover_cost())
                    self.assertIs(is_best_cover(wide.web, paper[0]), True)
                    self.assertIsNone(prices_fault(wide.web, paper[1]))
        self.assertEqual(set(kinds), {True, False})

    def test_two_sides_of_20(self):
        rng = random.Random(2)
        names = letters(40)
        rng.shuffle(names)
        ties = list(itertools.product(names[:20], names[20:]))
        prices = {name: GREATEST if name in names[:20] else GREATEST - 1 for name in names}
        web = Web(tuple(names), ties, prices)
        self.assertIsNone(odd(web))
        self.assertIs(is_whole(web), True)
        cover, y = whole_paper(web)
        self.assertEqual(cover, tuple(sorted(names[20:])))
        self.assertEqual(sum(y.values()), 40 * (GREATEST - 1))
        self.assertIsNone(prices_fault(web, y))
        one = web.without_tie(names[0], names[20]).with_tie(names[3], names[7])
        check_ring(self, one, odd(one))

    def test_long_rings(self):
        rng = random.Random(3)
        for many in (3, 5, 17, 39):
            web = ring_web(many, rng, GREATEST)
            check_ring(self, web, odd(web))
            self.assertEqual(len(odd(web)), many)
            self.assertEqual(kernel(web), web.places())
            self.assertIs(is_whole(web), False)
        for many in (4, 10, 40):
            web = ring_web(many, rng, GREATEST)
            self.assertIsNone(odd(web))
            self.assertIs(is_whole(web), True)
            self.assertEqual(len(whole_paper(web)[0]), many // 2)

    def test_ring_far_away(self):
        # A long path to a ring of 5: the ring must not contain the path.
        rng = random.Random(4)
        names = letters(40)
        rng.shuffle(names)
        ties = list(zip(names, names[1:])) + [(names[35], names[39])]
        web = Web(tuple(names), ties, dict.fromkeys(names, 1))
        check_ring(self, web, odd(web))
        self.assertEqual(sorted(odd(web)), sorted(names[35:]))

    def test_random_webs(self):
        rng = random.Random(6)
        for many, ties in itertools.product((12, 25, 40), (20, 40, 66)):
            for _ in range(5):
                names = letters(many)
                web = Web(tuple(names), rng.sample(pairs(names), ties), dict.fromkeys(names, 1))
                ring = odd(web)
                if ring is None:
                    self.assertIs(is_whole(web), True)
                    self.assertTrue(is_coloured(web))
                else:
                    check_ring(self, web, ring)


def is_coloured(web):
    """Whether two colours that spread along the ties never meet."""
    colours = {}
    for place in web.places():
        waiting = [(place, 0)] if place not in colours else []
        while waiting:
            name, colour = waiting.pop()
            if colours.setdefault(name, colour) != colour:
                return False
            waiting += [(other, 1 - colour) for other in web.near(name) if colours.get(other) != 1 - colour]
    return True


class LeastWhole(unittest.TestCase):

    def test_all_tied(self):
        for many in (3, 9, 10):
            names = letters(many)
            web = Web(tuple(reversed(names)), pairs(names), dict.fromkeys(names, GREATEST))
            self.assertEqual(least_whole(web), names[:many - 2])

    def test_groups_of_10(self):
        groups, ties = clusters([3, 3, 4])
        web = numbered(10, ties)
        names = web.places()
        self.assertEqual(least_whole(web), [names[at] for at in (0, 3, 6, 7)])

    def test_not_in_the_kernel(self):
        # Without a, which is 0, the places b and c become 0 and d and e 2.
        ties = [("a", "b"), ("a", "c"), ("b", "d"), ("c", "e"), ("d", "e"), ("d", "f"), ("e", "f")]
        web = Web(tuple("abcdef"), ties, {**dict.fromkeys("bcdef", 1), "a": 3})
        self.assertEqual(kernel(web), ["d", "e", "f"])
        self.assertEqual(least_whole(web), ["a"])

    def test_ten_places(self):
        rng = random.Random(8)
        lengths = set()
        for density, top in itertools.product((0.4, 0.6, 0.8), (1, 2, GREATEST)):
            places = letters(10)
            ties = [tie for tie in pairs(places) if rng.random() < density]
            prices = {place: rng.randint(1, top) for place in places}
            web = Web(tuple(places), ties, prices)
            gone = least_whole(web)
            lengths.add(len(gone))
            self.assertEqual(gone, self.by_covers(web, places, ties, prices))
        self.assertGreater(len(lengths), 2)

    def by_covers(self, web, places, ties, prices):
        """Twice the cost of a cover that meets only the ties of the rest, and the worth of the rest."""
        costs = {cover: sum(prices[place] for place in cover) for cover in all_covers(places, [])}

        @functools.cache
        def least(rest):
            some = [(a, b) for a, b in ties if a in rest and b in rest]
            return min(cost for cover, cost in costs.items() if all(a in cover or b in cover for a, b in some))

        for gone in subsets(places):
            rest = tuple(place for place in places if place not in gone)
            if 2 * least(rest) == worth(web.inside(list(rest))):
                return gone

    def test_the_limit(self):
        for many in (11, 40):
            for web in (numbered(many, []), numbered(many, pairs(range(11)))):
                with self.assertRaises(TooMany) as caught:
                    least_whole(web)
                self.assertEqual(vars(caught.exception), {"limit": 10})
        self.assertEqual(least_whole(numbered(10, [])), [])
        self.assertEqual(least_whole(ring_web(10)), [])
        self.assertEqual(len(least_whole(ring_web(9).with_place("z"))), 1)


if __name__ == "__main__":
    unittest.main()
