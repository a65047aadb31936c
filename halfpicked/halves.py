"""Half-way answers: covers by halves, best ones, and the tie prices that show their worth."""

from halfpicked.checks import has_just, has_values, is_integer
from halfpicked.errors import NoAnswer
from halfpicked.sides import sides


def is_answer(web, x):
    """True if x is an answer of the web."""
    return has_values(x, web.places()) and all([x[a] + x[b] >= 2 for a, b in web.ties()])


def cost(web, x):
    """The sum of price times value over all places."""
    if not is_answer(web, x):
        raise NoAnswer()
    return sum([web.price(place) * x[place] for place in x])


def worth(web):
    """The least cost of an answer."""
    return sides(web).total


def answer(web):
    """A best answer."""
    return sides(web).answer()


def is_best(web, x):
    """True if x is a best answer."""
    return is_answer(web, x) and cost(web, x) == worth(web)


def tie_prices(web):
    """Tie prices whose sum is the worth."""
    return dict(zip(web.ties(), sides(web).row_flows()))


def prices_fault(web, y):
    """What keeps y from being tie prices whose sum is the worth, or None."""
    if not has_just(y, web.ties()) or not all([is_integer(y[tie]) and y[tie] >= 0 for tie in y]):
        return ("form",)
    for place in web.places():
        if sum([y[tie] for tie in y if place in tie]) > 2 * web.price(place):
            return ("place", place)
    if sum([y[tie] for tie in y]) != worth(web):
        return ("sum",)
    return None
