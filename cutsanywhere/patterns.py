"""Patterns: what a rule says of the characters on one side of a position."""

from cutsanywhere.crowds import Crowd
from cutsanywhere.names import is_name
from cutsanywhere.nets import REPEATED

DEEPEST = 20
NAMING = ("class", "not")
SEVERAL = ("row", "either")


def is_pattern(thing):
    """Whether it is a pattern, of parts not too deep within one another."""
    return _is_pattern(thing, DEEPEST)


def _is_pattern(thing, depth):
    """Whether it is a pattern of parts at most so deep within one another."""
    if not isinstance(thing, tuple) or len(thing) not in (1, 2):
        return False
    if len(thing) == 1:
        return thing[0] == "any"
    kind, told = thing
    if kind in NAMING:
        return is_name(told)
    if kind in REPEATED:
        return depth > 0 and _is_pattern(told, depth - 1)
    return kind in SEVERAL and _are_parts(told, 2 if kind == "either" else 0, depth)


def _are_parts(thing, least, depth):
    """Whether it is a tuple of patterns, so many at least, that may stand in one which may be so deep."""
    if not isinstance(thing, tuple) or len(thing) < least:
        return False
    if thing and depth == 0:
        return False
    for part in thing:
        if not _is_pattern(part, depth - 1):
            return False
    return True


def parts_of(pattern):
    """The parts of a pattern, from the left: none for an item."""
    if pattern[0] in SEVERAL:
        return pattern[1]
    if pattern[0] in REPEATED:
        return (pattern[1],)
    return ()


def is_item(pattern):
    """Whether a pattern is an item: it matches one character."""
    return pattern[0] == "any" or pattern[0] in NAMING


def items_of(pattern):
    """How many items a pattern has."""
    if is_item(pattern):
        return 1
    return sum([items_of(part) for part in parts_of(pattern)])


def names_in(pattern):
    """The names that a pattern's items tell, from the left."""
    if pattern[0] in NAMING:
        return [pattern[1]]
    names = []
    for part in parts_of(pattern):
        names.extend(names_in(part))
    return names


def reversed_pattern(pattern):
    """A pattern that matches just the rows that this one matches, turned about."""
    kind = pattern[0]
    if kind in REPEATED:
        return (kind, reversed_pattern(pattern[1]))
    if kind in SEVERAL:
        parts = [reversed_pattern(part) for part in pattern[1]]
        return (kind, tuple(parts[::-1]))
    return pattern


def does_match(pattern, names, row):
    """Whether a pattern matches a whole row of numbers of the classes of these names."""
    crowd = Crowd([(True, pattern, ())], names)
    return crowd.fitting(crowd.state_of(row)) != 0
