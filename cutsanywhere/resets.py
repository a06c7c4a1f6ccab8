"""Begins in the middle of a text: what makes all that stands ahead count no more."""

from cutsanywhere.checks import check_between
from cutsanywhere.walks import are_rows, is_row, pair_of, pair_steps, pairs_ahead, walked


def reset(table):
    """A row behind which the state before is the same whatever stood ahead of it, or pairs that show there is none."""
    ways = table.automata().before
    steps = pair_steps(ways)
    nearer = _steps_to_one(steps)
    if len(nearer) < len(steps):
        return ("never", tuple([pair for pair in steps if pair not in nearer]))
    return ("reset", _row_to_one(ways, nearer))


def _steps_to_one(steps):
    """For each pair of states that a row leads to one state: the class with which the shortest such row begins."""
    nearer = {}
    for pair, ways in steps.items():
        for number, to in ways:
            if to is None:
                nearer[pair] = number
    ahead = pairs_ahead(steps)
    known = list(nearer)
    at = 0
    while at < len(known):
        last = known[at]
        for number, pair in ahead[last]:
            if pair not in nearer:
                nearer[pair] = number
                known.append(pair)
        at += 1
    return nearer


def _row_to_one(ways, nearer):
    """A row that leads all states to one: it leads two of them to one state, then two of those that are left."""
    row = []
    states = list(range(len(ways)))
    while len(states) > 1:
        pair = (states[0], states[1])
        while pair is not None:
            number = nearer[pair]
            row.append(number)
            states = sorted({ways[state][number] for state in states})
            pair = pair_of(ways[pair[0]][number], ways[pair[1]][number])
    return tuple(row)


def shows_reset(table, row):
    """Whether it is a row behind which the state before is the same whatever stood ahead of it."""
    ways = table.automata().before
    if not is_row(row, len(table.classes.names)):
        return False
    return len({walked(ways, state, row) for state in range(len(ways))}) == 1


def shows_never(table, pairs):
    """Whether pairs of states show that there is no such row: they lead to nothing but one another."""
    ways = table.automata().before
    if not isinstance(pairs, tuple) or not pairs or not are_rows(pairs, len(pairs), len(ways)):
        return False
    for pair in pairs:
        if len(pair) != 2 or pair[0] >= pair[1]:
            return False
    told = {pair: True for pair in pairs}
    for x, y in pairs:
        for one, other in zip(ways[x], ways[y]):
            if pair_of(one, other) not in told:
                return False
    return True


def known_from(table, text, position):
    """The greatest number from which on the characters ahead of a position tell the state before it; None without."""
    check_between(position, 0, len(text))
    ways = table.automata().before
    row = table.classes.row_of(text[:position])
    states = list(range(len(ways)))  # for each state ahead of a place the state to which the rest leads it
    for place in range(position, 0, -1):
        if len(set(states)) == 1:
            return place
        states = [states[steps[row[place - 1]]] for steps in ways]
    return 0 if len(set(states)) == 1 else None
