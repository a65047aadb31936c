"""From an answer back to prices for which it is a best one.

Each tie whose places have together just 2 gets the tie price 2. A place then gets as price the
number of such ties, which is half of what its ties cost, and a place with value 0 gets one more.
So the tie prices add up to the cost of the answer. In every other best answer the places with
value 0 keep it, because they are dearer than their ties, and the values at each tie with a price
add up to 2 again. Only parts of halves with two sides leave another answer then.
"""

from halfpicked.errors import NoAnswer
from halfpicked.halves import is_answer
from halfpicked.parts import level_tie, parts


def prices_for(web, x):
    """Prices for which x is a best answer, or None."""
    _need_answer(web, x)
    if _idle(web, x):
        return None
    return _prices(web, x)


def only_for(web, x):
    """Prices for which x is the only best answer, or None."""
    if fault_of(web, x) is not None:
        return None
    return _prices(web, x)


def fault_of(web, x):
    """What keeps x from being the only best answer for some prices, or None."""
    _need_answer(web, x)
    idle = _idle(web, x)
    if idle:
        return ("place", idle[0])
    halves = [place for place in web.places() if x[place] == 1]
    return _two_sides(web.inside(halves)) if halves else None


def _need_answer(web, x):
    """Raises an error if x is no answer."""
    if not is_answer(web, x):
        raise NoAnswer()


def _partners(web, x, place):
    """The places that are tied to this one and have together with it just 2."""
    return [other for other in web.near(place) if x[place] + x[other] == 2]


def _idle(web, x):
    """The places that could have a lower value for sure, in ascending order."""
    return [place for place in web.places() if x[place] > 0 and not _partners(web, x, place)]


def _prices(web, x):
    """For each place its number of partners, and one more where it is left out."""
    prices = {}
    for place in web.places():
        more = 1 if x[place] == 0 else 0
        prices[place] = len(_partners(web, x, place)) + more
    return prices


def _two_sides(web):
    """The sides of the first part that has two sides, or None."""
    for distances in parts(web):
        if level_tie(web, distances) is None:
            left = [place for place in distances if distances[place] & 1 == 0]
            right = [place for place in distances if distances[place] & 1 == 1]
            return ("sides", tuple(sorted(left)), tuple(sorted(right)))
    return None
