"""Cheapest covers of a few places, found by taking or leaving one place after the other.

Sets of places are written as bits of an integer: the least place is the lowest bit. A rest is a
set of places that are left to decide, and each rest is solved once. In the first half of the
places each decision at most doubles the number of rests. In the second half only later places
are left in them. So a search over 22 places meets a few thousand rests, and not millions.
"""


class Search:
    """Cheapest covers of the ties between these places of a web."""

    def __init__(self, web, places):
        """The places stand in ascending order."""
        self._places = list(places)
        self._prices = [web.price(place) for place in places]
        self._near = [self._bits(web.near(place)) for place in places]
        self._everything = self._bits(places)
        self._costs = {0: 0}

    def cover(self):
        """The list of the places of a cheapest cover."""
        cover = 0
        rest = self._everything
        while rest:
            _, taken, rest = min(self._ways(rest))
            cover |= taken
        return self._read(cover)

    def covers(self):
        """The lists of the places of all cheapest covers."""
        return [self._read(cover) for cover in self._covers(self._everything)]

    def _covers(self, rest):
        """All cheapest covers of the ties in the rest."""
        if rest == 0:
            return [0]
        found = []
        for price, taken, later in self._ways(rest):
            if price == self._cost(rest):
                found.extend([taken | cover for cover in self._covers(later)])
        return found

    def _cost(self, rest):
        """The cost of a cheapest cover of the ties in the rest."""
        if rest not in self._costs:
            price, _, _ = min(self._ways(rest))
            self._costs[rest] = price
        return self._costs[rest]

    def _ways(self, rest):
        """The two ways to decide the first place: the cost in all, what is taken, and the rest."""
        first = rest & -rest
        around = self._near[first.bit_length() - 1] & rest
        ways = []
        # Whoever leaves a place takes all places that are tied to it.
        for taken, decided in ((first, first), (around, first | around)):
            later = rest ^ decided
            ways.append((self._price(taken) + self._cost(later), taken, later))
        return ways

    def _price(self, taken):
        """The sum of the prices of these places."""
        return sum([price for at, price in enumerate(self._prices) if taken >> at & 1])

    def _bits(self, names):
        """The set of those places that are among the names."""
        return sum([1 << at for at, place in enumerate(self._places) if place in names])

    def _read(self, cover):
        """The list of the places of this set."""
        return [place for at, place in enumerate(self._places) if cover >> at & 1]
