"""Covers: cheapest ones, all of them, and what answers tell about them."""

from halfpicked.errors import NoAnswer, NoCover, TooMany
from halfpicked.halves import is_answer, worth
from halfpicked.kernel import fixed, least, merge
from halfpicked.search import Search

MOST_SEARCHED = 22
MOST_LISTED = 2000


def is_cover(web, cover):
    """True if this is a cover of the web, as a tuple of its places in ascending order."""
    if not isinstance(cover, tuple) or not all([place in web for place in cover]):
        return False
    if not all([a < b for a, b in zip(cover, cover[1:])]):
        return False
    return all([a in cover or b in cover for a, b in web.ties()])


def cover_price(web, cover):
    """The sum of the prices of the places of the cover."""
    if not is_cover(web, cover):
        raise NoCover()
    return sum([web.price(place) for place in cover])


def is_best_cover(web, cover):
    """True if this is a cover of the least cost."""
    return is_cover(web, cover) and cover_price(web, cover) == cover_cost(web)


def best(web):
    """A cover of the least cost."""
    return _completed(web, least(web))


def cover_cost(web):
    """The least cost of a cover."""
    return cover_price(web, best(web))


def gap(web):
    """How much more than the worth twice the least cost of a cover is."""
    return 2 * cover_cost(web) - worth(web)


def apart(web):
    """Places without a tie between two of them, with the greatest sum of prices."""
    cover = best(web)
    return tuple([place for place in web.places() if place not in cover])


def mended(web, x, cover):
    """The cover with all places of value 2 and without those of value 0."""
    _need_both(web, x, cover)
    return tuple([place for place in web.places() if x[place] == 2 or (x[place] == 1 and place in cover)])


def softened(web, x, cover):
    """The answer with 1 where x is whole and the cover says otherwise."""
    _need_both(web, x, cover)
    values = {}
    for place in x:
        other = 0 if place in cover else 2
        values[place] = 1 if x[place] == other else x[place]
    return values


def follow(web, x):
    """A best cover that takes what is 2 in the best answer x and leaves what is 0."""
    # Where x is half the least answer decides, so nothing but the kernel stays half.
    return _completed(web, merge(web, x, least(web)))


def every(web):
    """All best covers in ascending order, if they are not more than 2000."""
    covers = _best_covers(web)
    if len(covers) > MOST_LISTED:
        raise TooMany(MOST_LISTED)
    return covers


def each(web):
    """Yields all best covers in ascending order."""
    covers = _best_covers(web)
    for cover in covers:
        yield cover


def count(web):
    """The number of best covers."""
    return len(_best_covers(web))


def sure(web):
    """The places that are in every best cover, in ascending order."""
    covers = _best_covers(web)
    return [place for place in web.places() if all([place in cover for cover in covers])]


def never(web):
    """The places that are in no best cover, in ascending order."""
    covers = _best_covers(web)
    return [place for place in web.places() if not any([place in cover for cover in covers])]


def _need_both(web, x, cover):
    """Raises an error if x is no answer or the cover is none."""
    if not is_answer(web, x):
        raise NoAnswer()
    if not is_cover(web, cover):
        raise NoCover()


def _completed(web, x):
    """A best cover that does what the best answer x says where it is whole."""
    return _joined(x, _search(web, [place for place in web.places() if x[place] == 1]).cheapest())


def _best_covers(web):
    """All best covers in ascending order."""
    values = fixed(web)
    # What is fixed is the same in all of them, and only fixed places are tied to a fixed 0.
    covers = _search(web, [place for place in web.places() if place not in values]).all_cheapest()
    return sorted([_joined(values, cover) for cover in covers])


def _search(web, places):
    """The search over these places, if they are not too many."""
    if len(places) > MOST_SEARCHED:
        raise TooMany(MOST_SEARCHED)
    prices = {place: web.price(place) for place in places}
    # Whoever leaves a place takes all places that are tied to it.
    return Search(prices, {place: [([place], []), (web.near(place), [place])] for place in places})


def _joined(values, cover):
    """The places with the value 2 and those of the cover, in ascending order."""
    return tuple(sorted([place for place in values if values[place] == 2] + cover))
