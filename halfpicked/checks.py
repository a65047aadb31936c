"""Checks of values that may be anything, for several files."""

MOST_PLACES = 40
MOST_TIES = 400
MOST_ROWS = 400
LONGEST_NAME = 8
GREATEST_PRICE = 10 ** 30


def is_integer(value):
    """True for an integer; True and False are none."""
    return isinstance(value, int) and not isinstance(value, bool)


def is_between(value, low, high):
    """True for an integer from low to high."""
    return is_integer(value) and low <= value <= high


def is_price(value):
    """True for a price that a place may have."""
    return is_between(value, 1, GREATEST_PRICE)


def is_name(value):
    """True for a string of 1 to 8 letters a to z."""
    if not isinstance(value, str) or not 1 <= len(value) <= LONGEST_NAME:
        return False
    return all(["a" <= sign <= "z" for sign in value])


def is_among(value, names):
    """True if the value is one of these names."""
    # Only a string is looked up: other values may have no hash.
    return isinstance(value, str) and value in names


def is_literal(value, names):
    """True for a tuple of one of these names and True or False."""
    if not isinstance(value, tuple) or len(value) != 2:
        return False
    return is_among(value[0], names) and isinstance(value[1], bool)


def has_just(value, keys):
    """True if the value is a dict with just these different keys."""
    return isinstance(value, dict) and len(value) == len(keys) and all([key in value for key in keys])


def has_values(value, names):
    """True for a dict of just these names to 0, 1 and 2."""
    return has_just(value, names) and all([is_between(value[name], 0, 2) for name in names])


def in_order(a, b):
    """The two names as a tuple, the lesser one first."""
    return (a, b) if a <= b else (b, a)


def names_fault(names):
    """The index of the first wrong name, -1 if it is no tuple of 1 to 40, None if all is well."""
    if not isinstance(names, tuple) or not 1 <= len(names) <= MOST_PLACES:
        return -1
    seen = {}
    for index, name in enumerate(names):
        if not is_name(name) or name in seen:
            return index
        seen[name] = True
    return None


def price_fault(prices, names, least):
    """The least name with a price below `least` or too high, "" if the form is wrong, or None."""
    if not has_just(prices, names):
        return ""
    for name in sorted(names):
        if not is_between(prices[name], least, GREATEST_PRICE):
            return name
    return None
