"""Walks over the states of automata: rows that lead to states, and pairs of unlike states side by side."""

from cutsanywhere.checks import are_between


def is_row(thing, many):
    """Whether it is a row: a tuple of integers from 0 on that are less than this one."""
    return isinstance(thing, tuple) and are_between(thing, len(thing), many - 1)


def are_rows(thing, size, many):
    """Whether it is a tuple of so many rows of integers from 0 on that are less than many."""
    if not isinstance(thing, tuple) or len(thing) != size:
        return False
    for row in thing:
        if not is_row(row, many):
            return False
    return True


def walked(ways, state, row):
    """The state to which a row leads, in the order in which it is read."""
    for number in row:
        state = ways[state][number]
    return state


def rows_to(ways):
    """For each state a row that leads to it, as short as any, in the order in which it is read.

    States are numbered in the order in which they are reached: so each new one is the next one.
    """
    rows = [()]
    for state, steps in enumerate(ways):
        for number, to in enumerate(steps):
            if to == len(rows):
                rows.append(rows[state] + (number,))
    return rows


def shortest_place(befores, afters, is_right):
    """The keys of two dicts that are right together, with rows as short together as any; None without such keys.

    The rows are the values of the dicts; in each the shorter ones come first.
    """
    place = None
    least = 0
    for before, row in befores.items():
        for after, behind in afters.items():
            size = len(row) + len(behind)
            if place is not None and size >= least:
                break
            if is_right(before, after):
                place = (before, after)
                least = size
                break
    return place


def pair_of(x, y):
    """Two states as a pair, the lesser one first; None if they are one."""
    if x == y:
        return None
    return (x, y) if x < y else (y, x)


def pair_steps(ways):
    """For each pair of unlike states, ascending, where classes lead it: a list of (class, pair).

    The pair is None where the class leads both to one state. A class that leads all states as an earlier one does is
    left out.
    """
    numbers = _unlike_classes(ways)
    steps = {}
    for x, one in enumerate(ways):
        for y in range(x + 1, len(ways)):
            steps[(x, y)] = [(number, pair_of(one[number], ways[y][number])) for number in numbers]
    return steps


def _unlike_classes(ways):
    """The classes that do not lead all states as an earlier one does."""
    columns = list(zip(*ways))
    numbers = {}
    for number, column in enumerate(columns):
        numbers.setdefault(column, number)
    return list(numbers.values())


def pairs_ahead(steps):
    """For each pair, of what pair_steps returned, the steps that lead to it: a list of (class, pair)."""
    ahead = {pair: [] for pair in steps}
    for pair, ways in steps.items():
        for number, to in ways:
            if to is not None:
                ahead[to].append((number, pair))
    return ahead


def ranks_in(steps):
    """For each pair that has a longest way over pairs of unlike states: how many steps this way has.

    Pairs become known from the ends of the ways on, so that the last step of a pair that becomes known is the one
    with the longest way.
    """
    ahead = pairs_ahead(steps)
    left = {pair: len([to for _, to in ways if to is not None]) for pair, ways in steps.items()}
    ranks = {pair: 0 for pair in steps if left[pair] == 0}
    known = list(ranks)
    at = 0
    while at < len(known):
        last = known[at]
        for _, pair in ahead[last]:
            left[pair] -= 1
            if left[pair] == 0:
                ranks[pair] = ranks[last] + 1
                known.append(pair)
        at += 1
    return ranks
