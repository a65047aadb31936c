"""Curves: the worth as a function of the price of one place."""

from halfpicked.checks import is_price
from halfpicked.errors import BadNumber, NoAnswer
from halfpicked.halves import cost, is_answer
from halfpicked.kernel import forced


class Curve:
    """How the worth of a web depends on the price of one place. A curve never changes."""

    def __init__(self, web, place):
        # This raises NoPlace for what is no place.
        price = web.price(place)
        self._rests = [forced(web, {place: value}) - value * price for value in (0, 1, 2)]

    @property
    def none(self):
        """The least cost of the other places if the place has the value 0."""
        return self._rests[0]

    @property
    def half(self):
        """The least cost of the other places if the place has the value 1."""
        return self._rests[1]

    @property
    def both(self):
        """The least cost of the other places if the place has the value 2."""
        return self._rests[2]

    def breaks(self):
        """The price up to which the worth grows by 2, and the price from which on it stays."""
        return (self.half - self.both, self.none - self.half)

    def __call__(self, price):
        """The worth if the place has this price."""
        return min(self._totals(price))

    def at(self, price):
        """The values of the place in the best answers if it has this price, in ascending order."""
        totals = self._totals(price)
        return [value for value in (0, 1, 2) if totals[value] == min(totals)]

    def __eq__(self, other):
        return isinstance(other, Curve) and self._rests == other._rests

    def _totals(self, price):
        """The least costs for the values 0, 1 and 2 of the place if it has this price."""
        if not is_price(price):
            raise BadNumber()
        return [rest + value * price for value, rest in enumerate(self._rests)]


def keeps(web, x, place):
    """The least and the greatest price of the place for which x is a best answer, or None.

    None in the place of the greatest one says that there is none.
    """
    if not is_answer(web, x):
        raise NoAnswer()
    curve = Curve(web, place)
    value = x[place]
    rest = (curve.none, curve.half, curve.both)[value]
    if cost(web, x) - value * web.price(place) != rest:
        return None
    first, second = curve.breaks()
    low, high = ((second, None), (first, second), (1, first))[value]
    low = max(1, low)
    if high is not None and high < low:
        return None
    return (low, high)
