"""Webs: places with prices, and ties between two places."""

from halfpicked.checks import (
    MOST_PLACES, MOST_TIES, in_order, is_among, is_name, is_price, names_fault, price_fault,
)
from halfpicked.errors import (
    BadList, BadPlaces, BadPrice, BadTie, CommonPlace, EmptyWeb, NoName, NoPlace, NoTie,
    PlaceThere, SamePlace, TieThere, TooMany,
)


class Web:
    """Places with prices and ties. A web never changes."""

    def __init__(self, places, ties, prices):
        wrong = names_fault(places)
        if wrong is not None:
            raise BadPlaces(wrong)
        wrong = _tie_fault(ties, places)
        if wrong is not None:
            raise BadTie(wrong)
        wrong = price_fault(prices, places, 1)
        if wrong is not None:
            raise BadPrice(wrong)
        # Both are kept in ascending order, so that equal webs hold equal lists.
        self._prices = {place: prices[place] for place in sorted(places)}
        self._ties = sorted([in_order(a, b) for a, b in ties])

    def places(self):
        """The places in ascending order."""
        return list(self._prices)

    def ties(self):
        """The ties (a, b) with a < b in ascending order."""
        return list(self._ties)

    def price(self, place):
        """The price of the place."""
        self._need(place)
        return self._prices[place]

    def near(self, place):
        """The places that are tied to the place, in ascending order."""
        self._need(place)
        # The ties ascend, and each place of the first list is less than the place.
        return [a for a, b in self._ties if b == place] + [b for a, b in self._ties if a == place]

    def degree(self, place):
        """The number of ties of the place."""
        return len(self.near(place))

    def __len__(self):
        return len(self._prices)

    def __contains__(self, x):
        return is_among(x, self._prices)

    def __eq__(self, other):
        return isinstance(other, Web) and self._prices == other._prices and self._ties == other._ties

    def with_price(self, place, price):
        """This web with another price of the place."""
        self._need(place)
        if not is_price(price):
            raise BadPrice(place)
        return _web_of({**self._prices, place: price}, self._ties)

    def with_tie(self, a, b):
        """This web with one tie more."""
        self._need(a)
        self._need(b)
        if a == b:
            raise SamePlace(a)
        pair = in_order(a, b)
        if pair in self._ties:
            raise TieThere(pair)
        if len(self._ties) >= MOST_TIES:
            raise TooMany(MOST_TIES)
        return _web_of(self._prices, [*self._ties, pair])

    def without_tie(self, a, b):
        """This web with one tie less."""
        self._need(a)
        self._need(b)
        pair = in_order(a, b)
        if pair not in self._ties:
            raise NoTie(pair)
        return _web_of(self._prices, [tie for tie in self._ties if tie != pair])

    def with_place(self, place, *, price=1):
        """This web with one place more, which has no ties."""
        if not is_name(place):
            raise NoName(place)
        if place in self._prices:
            raise PlaceThere(place)
        if len(self._prices) >= MOST_PLACES:
            raise TooMany(MOST_PLACES)
        if not is_price(price):
            raise BadPrice(place)
        return _web_of({**self._prices, place: price}, self._ties)

    def without_place(self, place):
        """This web without the place and its ties."""
        self._need(place)
        if len(self._prices) == 1:
            raise EmptyWeb()
        return self._part([name for name in self._prices if name != place])

    def inside(self, places):
        """Only these places, with the ties between them."""
        if not isinstance(places, list):
            raise BadList()
        for place in places:
            self._need(place)
        if not places:
            raise EmptyWeb()
        return self._part(places)

    def __add__(self, other):
        if not isinstance(other, Web):
            return NotImplemented
        common = [place for place in self._prices if place in other._prices]
        if common:
            raise CommonPlace(common[0])
        if len(self._prices) + len(other._prices) > MOST_PLACES:
            raise TooMany(MOST_PLACES)
        if len(self._ties) + len(other._ties) > MOST_TIES:
            raise TooMany(MOST_TIES)
        return _web_of({**self._prices, **other._prices}, self._ties + other._ties)

    def _need(self, place):
        """Raises NoPlace if this is not a place of the web."""
        if not is_among(place, self._prices):
            raise NoPlace(place)

    def _part(self, names):
        """The web of these places of this web."""
        prices = {name: self._prices[name] for name in names}
        ties = [(a, b) for a, b in self._ties if a in prices and b in prices]
        return _web_of(prices, ties)


def _web_of(prices, ties):
    """The web whose places are the keys of the prices."""
    return Web(tuple(prices), ties, prices)


def _is_tie(value, places):
    """True for a tuple of two different places."""
    if not isinstance(value, tuple) or len(value) != 2:
        return False
    a, b = value
    return is_among(a, places) and is_among(b, places) and a != b


def _tie_fault(ties, places):
    """The index of the first wrong tie, -1 if it is no list of at most 400, None if all is well."""
    if not isinstance(ties, list) or len(ties) > MOST_TIES:
        return -1
    seen = {}
    for index, tie in enumerate(ties):
        if not _is_tie(tie, places):
            return index
        pair = in_order(tie[0], tie[1])
        if pair in seen:
            return index
        seen[pair] = True
    return None
