"""Checks of numbers, and pairs of them, that callers pass."""

from cutsanywhere.errors import BadThing
from cutsanywhere.signs import is_integer


def is_between(thing, least, most):
    """Whether it is an integer from least to most."""
    return is_integer(thing) and least <= thing <= most


def are_between(thing, many, most):
    """Whether it is a tuple of so many integers from 0 to most."""
    if not isinstance(thing, tuple) or len(thing) != many:
        return False
    for number in thing:
        if not is_between(number, 0, most):
            return False
    return True


def is_pair(thing):
    """Whether it is a pair of integers."""
    return isinstance(thing, tuple) and len(thing) == 2 and is_integer(thing[0]) and is_integer(thing[1])


def check_between(thing, least, most):
    """Raise BadThing for another value than an integer from least to most."""
    if not is_between(thing, least, most):
        raise BadThing(thing)


def check_stretch(position, many, size):
    """Raise BadThing if a text of this size has no such position, or not so many characters behind it."""
    check_between(position, 0, size)
    check_between(many, 0, size - position)
