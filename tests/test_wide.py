"""Webs of 40 places with many ties and large prices (points 10 to 18)."""

import random
import unittest

from halfpicked.halves import answer, cost, is_answer, is_best, prices_fault, tie_prices, worth
from halfpicked.kernel import all_half, can, fixed, forced, kernel, least, loose, merge
from halfpicked.webs import Web
from tests.support import GREATEST, Columns, letters, pairs, snapshot


def price_ways(rng):
    """Ways to draw prices: all one, few different, any, and the two ends."""
    return [
        lambda: 1, lambda: GREATEST, lambda: rng.randint(1, 3),
        lambda: rng.randint(1, GREATEST), lambda: rng.choice((1, GREATEST - 1, GREATEST)),
    ]


class WideWebs(unittest.TestCase):

    def check_best(self, web, low):
        """The worth is this, and answers and tie prices show it."""
        self.assertEqual(worth(web), low)
        x = answer(web)
        self.assertIs(is_answer(web, x), True)
        self.assertEqual(cost(web, x), low)
        self.assertIs(is_best(web, x), True)
        y = tie_prices(web)
        self.assertEqual(sum(y.values()), low)
        self.assertIsNone(prices_fault(web, y))

    def check_places(self, web, low, costs):
        """`costs` gives the least cost for each value of each place, if there is one."""
        values = {
            place: [value for value in (0, 1, 2) if costs.get((place, value)) == low] for place in web.places()
        }
        halves = [place for place in values if values[place] == [1]]
        self.assertEqual(kernel(web), halves)
        x = least(web)
        self.assertIs(is_best(web, x), True)
        self.assertEqual([place for place in web.places() if x[place] == 1], halves)
        self.assertEqual(fixed(web), {p: values[p][0] for p in values if values[p] in ([0], [2])})
        self.assertEqual(loose(web), [p for p in values if 0 in values[p] and 2 in values[p]])
        self.assertIs(all_half(web), len(halves) == len(web))
        y = merge(web, answer(web), x)
        self.assertIs(is_best(web, y), True)
        for place in web.places():
            for value in (0, 1, 2):
                self.assertIs(can(web, place, value), value in values[place])
                self.assertEqual(forced(web, {place: value}), costs.get((place, value)))

    def test_columns(self):
        rng = random.Random(11)
        for many, rows, density in ((10, 4, 1), (10, 4, 0.5), (10, 4, 0.25), (20, 2, 1), (20, 2, 0.6)):
            for price in price_ways(rng):
                wide = Columns(rng, many, rows, density, price)
                shot = snapshot(wide.web)
                low = wide.least_of({})
                self.check_best(wide.web, low)
                self.check_places(wide.web, low, wide.marginals())
                self.assertEqual(snapshot(wide.web), shot)

    def test_many_kept(self):
        rng = random.Random(12)
        ways = price_ways(rng)
        for k in range(30):
            wide = Columns(rng, 10, 4, (0.2, 0.5)[k % 2], ways[k % 5])
            names = wide.web.places()
            kept = {name: rng.choice((0, 1, 1, 2, 2, 2)) for name in rng.sample(names, k)}
            self.assertEqual(forced(wide.web, kept), wide.least_of(kept))
            for a, b in wide.web.ties():
                if kept.get(a, 2) + kept.get(b, 2) < 2:
                    kept[a] = 2
            self.assertEqual(forced(wide.web, kept), wide.least_of(kept))

    def test_two_sides(self):
        names = letters(40)
        ties = [(a, b) for a in names[:20] for b in names[20:]]
        for left, right in ((1, 2), (GREATEST, 1), (GREATEST - 1, GREATEST), (7, 7)):
            prices = {name: left if at < 20 else right for at, name in enumerate(names)}
            web = Web(tuple(names), ties, prices)
            low = 40 * min(left, right)
            self.check_best(web, low)
            self.assertEqual(kernel(web), [])
            if left == right:
                self.assertEqual((fixed(web), loose(web)), ({}, names))
            else:
                cheap = names[:20] if left < right else names[20:]
                self.assertEqual(fixed(web), {name: 2 if name in cheap else 0 for name in names})
                self.assertEqual(loose(web), [])

    def test_all_tied(self):
        names = letters(40)
        ties = pairs(names[:28])
        prices = dict.fromkeys(names, GREATEST)
        web = Web(tuple(names), ties, prices)
        self.check_best(web, 28 * GREATEST)
        self.assertEqual(kernel(web), names[:28])
        self.assertEqual(fixed(web), dict.fromkeys(names[28:], 0))
        # One place is dearer than all its neighbours together: it is left out.
        web = Web(tuple(names), ties, {**dict.fromkeys(names, 1), names[5]: GREATEST})
        self.check_best(web, 54)
        self.assertEqual(fixed(web)[names[5]], 0)
        self.assertEqual(kernel(web), [])

    def test_random_ties(self):
        rng = random.Random(13)
        names = letters(40)
        for many in (40, 60, 100, 200, 400):
            for price in price_ways(rng):
                web = Web(tuple(names), rng.sample(pairs(names), many), {name: price() for name in names})
                # Answers and tie prices of the same sum prove each other.
                low = sum(tie_prices(web).values())
                self.check_best(web, low)
                costs = {(p, x): self.least_with(web, p, x) for p in names for x in (0, 2)}
                costs.update({(p, 1): forced(web, {p: 1}) for p in names})
                for place in names:
                    self.assertGreaterEqual(costs[(place, 1)], low)
                    if costs[(place, 0)] == costs[(place, 2)] == low:
                        self.assertEqual(costs[(place, 1)], low)
                self.check_places(web, low, costs)

    def least_with(self, web, place, x):
        """The least cost with a whole place, by the worth of what the place leaves free."""
        picked = web.near(place) if x == 0 else [place]
        gone = picked + [place]
        left = [name for name in web.places() if name not in gone]
        paid = sum(2 * web.price(name) for name in picked)
        return paid + (worth(web.inside(left)) if left else 0)


if __name__ == "__main__":
    unittest.main()
