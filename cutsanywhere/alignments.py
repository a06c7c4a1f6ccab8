"""Two texts side by side: the units that both have, as many as can be, and a change of one into the other."""

from cutsanywhere.changes import in_form
from cutsanywhere.checks import is_between, is_pair
from cutsanywhere.cutting import units_of
from cutsanywhere.parts import PUT, SKIP, TAKE


def units_kept(one, other):
    """As many matches that ascend as can be, and for each match how many can be up to it: (pairs, levels)."""
    most = _most_kept(one, other)
    levels = {(i, j): most[i][j] + 1 for i, j in _matches(one, other)}
    return (_pairs_by(most), levels)


def _matches(one, other):
    """The pairs of places with equal units, ascending."""
    places = {}
    for j, unit in enumerate(other):
        places.setdefault(unit, []).append(j)
    return [(i, j) for i, unit in enumerate(one) for j in places.get(unit, [])]


def _most_kept(one, other):
    """How many units can be kept of the first i units of one and the first j of the other, by i and j."""
    most = [[0] * (len(other) + 1)]
    for unit in one:
        ahead = most[-1]
        row = [0]
        for j, told in enumerate(other):
            row.append(ahead[j] + 1 if unit == told else max(ahead[j + 1], row[j]))
        most.append(row)
    return most


def _pairs_by(most):
    """Matches that ascend, as many as can be: they are found from the end on."""
    pairs = []
    i = len(most) - 1
    j = len(most[0]) - 1
    while most[i][j] > 0:
        if most[i - 1][j] == most[i][j]:
            i -= 1
        elif most[i][j - 1] == most[i][j]:
            j -= 1
        else:
            i -= 1
            j -= 1
            pairs.append((i, j))
    return tuple(pairs[::-1])


def shows_most(one, other, pairs, levels):
    """Whether matches and levels show that no more units can be kept."""
    matches = _matches(one, other)
    if not _ascend(pairs, matches) or not isinstance(levels, dict):
        return False
    for match in matches:
        if not is_between(levels.get(match), 1, len(pairs)):
            return False
    return _are_apart(matches, levels)


def _ascend(thing, matches):
    """Whether it is a tuple of matches that ascend on both sides."""
    if not isinstance(thing, tuple):
        return False
    known = {match: True for match in matches}
    ahead = (-1, -1)
    for pair in thing:
        if not is_pair(pair) or pair not in known or pair[0] <= ahead[0] or pair[1] <= ahead[1]:
            return False
        ahead = pair
    return True


def _are_apart(matches, levels):
    """Whether no match has a lesser i and a lesser j than another one of its level."""
    least = {}  # for each level the least j so far: of one i, the greater j come first
    for i, j in sorted(matches, key=lambda match: (match[0], -match[1])):
        level = levels[(i, j)]
        if j > least.get(level, j):
            return False
        least[level] = j
    return True


def change_between(table, one, other):
    """A change of one text into another that keeps as many units as can be."""
    units = units_of(table, one)
    late_units = units_of(table, other)
    pairs, _ = units_kept(units, late_units)
    parts = []
    i = 0
    j = 0
    for kept, late_kept in (*pairs, (len(units), len(late_units))):
        parts.extend([(PUT, unit) for unit in late_units[j:late_kept]])
        parts.extend([(TAKE, unit) for unit in units[i:kept]])
        parts.extend([(SKIP, len(unit)) for unit in units[kept:kept + 1]])
        i = kept + 1
        j = late_kept + 1
    return in_form(parts)
