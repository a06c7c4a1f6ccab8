"""Ranges: sets of code points, told as ascending stretches."""

from cutsanywhere.errors import BadThing
from cutsanywhere.signs import GAP_FIRST, GAP_LAST, LAST_POINT, is_point

ALL = ((0, 55295), (57344, 1114111))


def is_ranges(thing):
    """Whether it is ranges in their one form."""
    if not isinstance(thing, tuple):
        return False
    behind = -1
    for stretch in thing:
        if not _is_pair(stretch) or stretch[0] <= behind or _holds_gap(stretch):
            return False
        behind = stretch[1] + 1
    return True


def _is_pair(thing):
    """Whether it is two code points of which the second is not below the first."""
    if not isinstance(thing, tuple) or len(thing) != 2:
        return False
    return is_point(thing[0]) and is_point(thing[1]) and thing[0] <= thing[1]


def _holds_gap(pair):
    return pair[0] < GAP_FIRST and pair[1] > GAP_LAST


def ranges_of(pairs):
    """The ranges that pairs of code points cover."""
    parted = []
    for pair in pairs:
        if not _is_pair(pair):
            raise BadThing(pair)
        if _holds_gap(pair):
            parted.append((pair[0], GAP_FIRST - 1))
            parted.append((GAP_LAST + 1, pair[1]))
        else:
            parted.append(pair)
    return _joined(sorted(parted))


def _joined(stretches):
    """Ascending stretches, with those that overlap or touch made one."""
    joined = []
    for first, last in stretches:
        if joined and first <= joined[-1][1] + 1:
            joined[-1] = (joined[-1][0], max(last, joined[-1][1]))
        else:
            joined.append((first, last))
    return tuple(joined)


def union(a, b):
    """The code points that are in a or in b."""
    return ranges_of(a + b)


def meet(a, b):
    """The code points that are in a and in b."""
    found = []
    i = 0
    j = 0
    while i < len(a) and j < len(b):
        first = max(a[i][0], b[j][0])
        last = min(a[i][1], b[j][1])
        if first <= last:
            found.append((first, last))
        if a[i][1] < b[j][1]:
            i += 1
        else:
            j += 1
    return tuple(found)


def less(a, b):
    """The code points that are in a and not in b."""
    return meet(a, _others(b))


def _others(ranges):
    """The code points that are not in ranges."""
    found = []
    behind = 0
    for first, last in ranges:
        if behind < first:
            found.append((behind, first - 1))
        behind = last + 1
    if behind <= LAST_POINT:
        found.append((behind, LAST_POINT))
    return meet(tuple(found), ALL)


def has(ranges, point):
    """Whether a code point is in ranges."""
    for first, last in ranges:
        if first <= point <= last:
            return True
    return False


def size(ranges):
    """How many code points are in ranges."""
    return sum([last - first + 1 for first, last in ranges])
