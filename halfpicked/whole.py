"""Whole webs, and the odd rings without which a web is whole."""

from itertools import combinations

from halfpicked.errors import TooMany
from halfpicked.halves import tie_prices
from halfpicked.kernel import kernel, least
from halfpicked.parts import level_tie, parts

MOST_TRIED = 10


def is_whole(web):
    """True if some best answer is whole at every place."""
    return not kernel(web)


def whole_paper(web):
    """A cheapest cover and the tie prices that prove it, or None if the web is not whole."""
    x = least(web)
    if any([x[place] == 1 for place in x]):
        return None
    return tuple([place for place in web.places() if x[place] == 2]), tie_prices(web)


def odd(web):
    """A ring with an odd number of places, or None."""
    for distances in parts(web):
        tie = level_tie(web, distances)
        if tie is not None:
            return _ring(web, distances, tie)
    return None


def least_whole(web):
    """The least of the shortest lists of places whose removal leaves a whole web."""
    if len(web) > MOST_TRIED:
        raise TooMany(MOST_TRIED)
    names = web.places()
    # The last place alone is a whole web, so one of these removals is always found.
    for many in range(len(names)):
        for gone in combinations(names, many):
            if is_whole(web.inside([name for name in names if name not in gone])):
                return list(gone)


def _ring(web, distances, tie):
    """The ring of the tie and of two shortest ways from its places to where they meet."""
    a, b = tie
    left = [a]
    right = [b]
    while left[-1] != right[-1]:
        left.append(_nearer(web, distances, left[-1]))
        right.append(_nearer(web, distances, right[-1]))
    return left + right[-2::-1]


def _nearer(web, distances, place):
    """A place that is tied to this one and one tie nearer to the least place of the part."""
    return [other for other in web.near(place) if distances[other] < distances[place]][0]
