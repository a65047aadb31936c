"""Cheapest ways to take or leave each of a few names, found by deciding one after the other.

Sets of names are written as bits of an integer: the least name is the lowest bit. A rest is a
set of names that are left to decide, and each rest is solved once. In the first half of the
names each decision at most doubles the number of rests. In the second half only later names are
left in them. So a search over 22 names meets a few thousand rests, and not millions.
"""


class Search:
    """Cheapest sets of names, where whoever takes or leaves a name decides others, too."""

    def __init__(self, prices, choices):
        """The prices of the names in ascending order, and the choices for each name.

        A choice is a pair of lists: what is taken with it, and what is left. It holds all that
        it brings about, so that every choice for a name that it does not hold can go with it.
        """
        self._places = {name: at for at, name in enumerate(prices)}
        self._prices = [prices[name] for name in prices]
        self._choices = [
            [(self._bits(taken), self._bits(taken + left)) for taken, left in choices[name]] for name in prices
        ]
        self._everything = self._bits(list(prices))
        self._costs = {0: 0}

    def cheapest(self):
        """The list of the names of a cheapest set."""
        found = 0
        rest = self._everything
        while rest:
            _, taken, rest = min(self._ways(rest, _first(rest)))
            found |= taken
        return self._read(found)

    def all_cheapest(self):
        """The lists of the names of all cheapest sets."""
        return [self._read(found) for found in self._all(self._everything)]

    def sureness(self, name):
        """True if all cheapest sets hold the name, False if none does, None otherwise."""
        at = self._places[name]
        best = self._cost(self._everything)
        held = [taken >> at & 1 == 1 for cost, taken, _ in self._ways(self._everything, at) if cost == best]
        return held[0] if len(held) == 1 else None

    def _all(self, rest):
        """All cheapest sets of names of the rest."""
        if rest == 0:
            return [0]
        found = []
        for cost, taken, later in self._ways(rest, _first(rest)):
            if cost == self._cost(rest):
                found.extend([taken | more for more in self._all(later)])
        return found

    def _cost(self, rest):
        """The cost of a cheapest set of names of the rest."""
        if rest not in self._costs:
            cost, _, _ = min(self._ways(rest, _first(rest)))
            self._costs[rest] = cost
        return self._costs[rest]

    def _ways(self, rest, at):
        """The ways to decide the name with this number: the cost in all, what is taken, and the rest."""
        ways = []
        for taken, decided in self._choices[at]:
            picked = taken & rest
            later = rest ^ (decided & rest)
            ways.append((self._price(picked) + self._cost(later), picked, later))
        return ways

    def _price(self, taken):
        """The sum of the prices of these names."""
        return sum([price for at, price in enumerate(self._prices) if taken >> at & 1])

    def _bits(self, names):
        """The set of those names that are searched."""
        return sum([1 << at for name, at in self._places.items() if name in names])

    def _read(self, taken):
        """The list of the names of this set."""
        return [name for name, at in self._places.items() if taken >> at & 1]


def _first(rest):
    """The number of the least name of the rest."""
    return (rest & -rest).bit_length() - 1
