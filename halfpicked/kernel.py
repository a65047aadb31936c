"""Kernels: what all best answers of a web have in common, and what they can give a place."""

from halfpicked.checks import is_between
from halfpicked.errors import BadKept, BadValue, NoAnswer, NoPlace, NotBest
from halfpicked.halves import is_answer, is_best
from halfpicked.sides import Sides, merged, sides, tie_rows


def merge(web, a, b):
    """What is whole in a as in a, the rest as in b."""
    if not is_answer(web, a) or not is_answer(web, b):
        raise NoAnswer()
    if not is_best(web, a) or not is_best(web, b):
        raise NotBest()
    return merged(a, b)


def kernel(web):
    """The places that are half in every best answer, in ascending order."""
    return sides(web).halves()


def least(web):
    """A best answer in which just the places of the kernel are half."""
    return sides(web).least()


def can(web, place, x):
    """True if some best answer gives the place the value x."""
    if place not in web:
        raise NoPlace(place)
    if not is_between(x, 0, 2):
        raise BadValue(x)
    return sides(web).answer_with(place, x) is not None


def fixed(web):
    """The places that are 0 in all best answers or 2 in all of them, with this value."""
    return sides(web).fixed()


def loose(web):
    """The places that are 0 in some best answer and 2 in another one, in ascending order."""
    values = sides(web).possible()
    return [place for place in values if 0 in values[place] and 2 in values[place]]


def forced(web, kept):
    """The least cost of the answers that have these values, or None if there are none."""
    if not _is_kept(web, kept):
        raise BadKept()
    if any([kept[a] + kept[b] < 2 for a, b in web.ties() if a in kept and b in kept]):
        return None
    prices = {place: web.price(place) for place in web.places()}
    # No answer costs as much as this room, so a copy with it is never picked.
    wide = 1 + 2 * sum([prices[place] for place in prices])
    left = dict(prices)
    right = dict(prices)
    # What must be picked has no room and is paid apart. A half is picked on the right side only.
    for place in kept:
        left[place] = 0 if kept[place] == 2 else wide
        right[place] = wide if kept[place] == 0 else 0
    paid = sum([prices[place] * kept[place] for place in kept])
    return paid + Sides(tie_rows(web), left, right).total


def all_half(web):
    """True if 1 everywhere is the only best answer."""
    return len(kernel(web)) == len(web)


def _is_kept(web, kept):
    """True for a dict from places of the web to 0, 1 and 2."""
    if not isinstance(kept, dict):
        return False
    return all([place in web and is_between(kept[place], 0, 2) for place in kept])
