"""Compares the verdicts of two tables on all texts."""

from cutsanywhere.checks import is_pair
from cutsanywhere.classes import common_classes
from cutsanywhere.names import KEEP, VERDICTS
from cutsanywhere.walks import shortest_place

SAME = (("keep", "keep"), ("may", "may"), ("must", "must"))


def finer_pairs():
    """The pairs of verdicts in which the first one is keep only where the second one is."""
    return tuple([(one, other) for one in VERDICTS for other in VERDICTS if one != KEEP or other == KEEP])


def compare(one, other, allowed):
    """Whether the pair of verdicts of two tables is always allowed, or a shortest place where it is not."""
    common = common_classes(one.classes, other.classes)
    a = one.automata()
    b = other.automata()
    befores = _led_to(common, a.before, b.before)
    afters = _led_to(common, a.after, b.after)
    place = _wrong_place(a, b, allowed, befores, afters)
    if place is None:
        return ("always", tuple(sorted(befores)), tuple(sorted(afters)))
    before, after = place
    return ("not", befores[before], afters[after][::-1])


def _led_to(common, ways, other_ways):
    """The pairs of states to which common rows lead, each with such a row; the shorter rows come first."""
    rows = {(0, 0): ()}
    pairs = [(0, 0)]
    at = 0
    while at < len(pairs):
        x, y = pairs[at]
        for number, other_number in common:
            to = (ways[x][number], other_ways[y][other_number])
            if to not in rows:
                rows[to] = rows[(x, y)] + ((number, other_number),)
                pairs.append(to)
        at += 1
    return rows


def _wrong_place(a, b, allowed, befores, afters):
    """A pair before and one after between which the verdicts are not allowed, None without one.

    Pairs come with rows, the shorter ones first; the rows of those that are told are as short together as any.
    """
    return shortest_place(
        _first_of_each(befores, a.verdicts, b.verdicts),
        _first_of_each(afters, list(zip(*a.verdicts)), list(zip(*b.verdicts))),
        lambda before, after: (a.verdicts[before[0]][after[0]], b.verdicts[before[1]][after[1]]) not in allowed,
    )


def _first_of_each(rows, told, other_told):
    """The first of those pairs of states, with rows, that have the same verdicts: the later ones count no more."""
    firsts = {}
    for x, y in rows:
        firsts.setdefault((told[x], other_told[y]), (x, y))
    return {pair: rows[pair] for pair in firsts.values()}


def are_alike(one, other):
    """Whether two tables have the same verdicts in all texts."""
    return compare(one, other, SAME)[0] == "always"


def is_finer(one, other):
    """Whether the first table's verdict is keep only where the second one's is."""
    return compare(one, other, finer_pairs())[0] == "always"


def shows_always(one, other, allowed, befores, afters):
    """Whether two tuples of pairs of states show that the pair of verdicts is always allowed."""
    common = common_classes(one.classes, other.classes)
    a = one.automata()
    b = other.automata()
    if not _is_closed(befores, common, a.before, b.before) or not _is_closed(afters, common, a.after, b.after):
        return False
    return _wrong_place(a, b, allowed, {pair: () for pair in befores}, {pair: () for pair in afters}) is None


def _is_closed(thing, common, ways, other_ways):
    """Whether it is a tuple of pairs of states with (0, 0), and with all pairs to which common classes lead them."""
    if not isinstance(thing, tuple):
        return False
    for pair in thing:
        if not is_pair(pair) or not 0 <= pair[0] < len(ways) or not 0 <= pair[1] < len(other_ways):
            return False
    pairs = {pair: True for pair in thing}
    for x, y in thing:
        for number, other_number in common:
            if (ways[x][number], other_ways[y][other_number]) not in pairs:
                return False
    return (0, 0) in pairs


def shows_not(one, other, allowed, before, after):
    """Whether two tuples are common rows between which the pair of verdicts is not allowed."""
    common = common_classes(one.classes, other.classes)
    if not _is_common_row(before, common) or not _is_common_row(after, common):
        return False
    return verdicts_between(one, other, before, after) not in allowed


def _is_common_row(thing, common):
    if not isinstance(thing, tuple):
        return False
    for pair in thing:
        if not is_pair(pair) or pair not in common:
            return False
    return True


def verdicts_between(one, other, before, after):
    """The verdicts of two tables between two common rows."""
    return (
        one.automata().verdict(_row_at(0, before), _row_at(0, after)),
        other.automata().verdict(_row_at(1, before), _row_at(1, after)),
    )


def _row_at(at, row):
    """The row of one table, at a place of the pairs of a common row."""
    return tuple([pair[at] for pair in row])
