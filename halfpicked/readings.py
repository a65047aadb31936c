"""What best half readings have in common, and cheapest readings."""

from halfpicked.clauses import Clauses, is_best_half, is_half, is_true, reading_cost, truth
from halfpicked.errors import NoHalf, NoReading, NotBest, NoTruth, TooMany
from halfpicked.search import Search
from halfpicked.sides import half_sides, merged, tie_rows
from halfpicked.steps import Steps

MOST_SEARCHED = 18


def half_merge(clauses, first, second):
    """What is whole in the first half reading as in it, the rest as in the second."""
    if not is_half(clauses, first) or not is_half(clauses, second):
        raise NoHalf()
    if not is_best_half(clauses, first) or not is_best_half(clauses, second):
        raise NotBest()
    return merged(first, second)


def half_kernel(clauses):
    """The names that are half in every best half reading, in ascending order."""
    return half_sides(clauses).halves()


def half_least(clauses):
    """A best half reading in which just the names of the half kernel are half."""
    return half_sides(clauses).least()


def half_fixed(clauses):
    """The names that are 0 in all best half readings or 2 in all of them, with this value."""
    return half_sides(clauses).fixed()


def mended_reading(clauses, x, reading):
    """The reading, changed to what x says where it is whole."""
    _need_both(clauses, x, reading)
    return {name: reading[name] if x[name] == 1 else x[name] == 2 for name in x}


def softened_half(clauses, x, reading):
    """The half reading with 1 where x is whole and the reading says otherwise."""
    _need_both(clauses, x, reading)
    values = {}
    for name in x:
        other = 0 if reading[name] else 2
        values[name] = 1 if x[name] == other else x[name]
    return values


def best_reading(clauses):
    """A true reading of the least cost."""
    _need_truth(clauses)
    x = half_least(clauses)
    # Rows with a name that is whole in x hold by what is whole, so only the halves are searched.
    taken = _search(clauses, [name for name in x if x[name] == 1]).cheapest()
    return {name: x[name] == 2 or name in taken for name in x}


def best_cost(clauses):
    """The least cost of a true reading."""
    return reading_cost(clauses, best_reading(clauses))


def sure_names(clauses):
    """The names that are True in every cheapest reading, and those that are False in every one."""
    _need_truth(clauses)
    names = clauses.names()
    values = half_fixed(clauses)
    # What is fixed is the same in all cheapest readings.
    flags = {name: values[name] == 2 for name in values}
    free = [name for name in names if name not in values]
    search = _search(clauses, free)
    for name in free:
        flags[name] = search.sureness(name)
    return [name for name in names if flags[name] is True], [name for name in names if flags[name] is False]


def of_web(web):
    """The clauses whose true readings are the covers of the web."""
    prices = {place: web.price(place) for place in web.places()}
    return Clauses(tuple(prices), tie_rows(web), prices)


def _need_both(clauses, x, reading):
    """Raises an error if x is no half reading or the reading is not a true one."""
    if not is_half(clauses, x):
        raise NoHalf()
    if not is_true(clauses, reading):
        raise NoReading()


def _need_truth(clauses):
    """Raises an error if there is no true reading."""
    if truth(clauses) is None:
        raise NoTruth()


def _search(clauses, names):
    """The search for the cheapest readings of these names, if they are not too many."""
    if len(names) > MOST_SEARCHED:
        raise TooMany(MOST_SEARCHED)
    steps = Steps(clauses)
    prices = {name: clauses.price(name) for name in names}
    return Search(prices, {name: _choices(steps, name) for name in names})


def _choices(steps, name):
    """For both flags, what becomes True and what becomes False with it, if it can stand."""
    choices = []
    for flag in (True, False):
        followers = steps.harmless((name, flag))
        if followers is not None:
            taken = [other for other, there in followers if there]
            choices.append((taken, [other for other, there in followers if not there]))
    return choices
