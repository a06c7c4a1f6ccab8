"""How far one has to look: how many characters before and after a position decide the verdict there."""

from cutsanywhere.automata import mirrored
from cutsanywhere.errors import BadThing
from cutsanywhere.signs import is_integer
from cutsanywhere.walks import are_rows, pair_of, pair_steps, ranks_in, rows_to, walked

BEFORE = "before"
AFTER = "after"


def _seen_from(table, side):
    """The automata of which the states before are those of a side."""
    if side not in (BEFORE, AFTER):
        raise BadThing(side)
    automata = table.automata()
    return automata if side == BEFORE else mirrored(automata)


def _turned(rows, side):
    """Rows of the automata seen from a side as rows of a text, and the other way round."""
    return tuple([row if side == BEFORE else row[::-1] for row in rows])


def least_many(table, side):
    """The least number of characters that is enough on a side, None if none is."""
    steps = pair_steps(_seen_from(table, side).before)
    ranks = ranks_in(steps)
    if len(ranks) < len(steps):
        return None
    return max(ranks.values(), default=-1) + 1


def reach(table):
    """The least numbers that are enough on both sides, or a side on which none is, with evidence."""
    many_before = least_many(table, BEFORE)
    if many_before is None:
        return ("beyond", BEFORE, _evidence(table, BEFORE))
    many_after = least_many(table, AFTER)
    if many_after is None:
        return ("beyond", AFTER, _evidence(table, AFTER))
    return ("within", many_before, many_after)


def _evidence(table, side):
    """The evidence that no number is enough on a side on which none is."""
    automata = _seen_from(table, side)
    pair, again = _ring(pair_steps(automata.before))
    rows = rows_to(automata.before)
    more, opposite = _parting(automata, pair)
    return _turned((rows[pair[0]], rows[pair[1]], again, more, opposite), side)


def _ring(steps):
    """A pair of unlike states, and a row that leads it over such pairs to itself: there must be one.

    It may lead each of the two states to the other one, too: they stay unlike.
    """
    ranks = ranks_in(steps)
    pair = [told for told in steps if told not in ranks][0]
    row = []
    places = {}
    while pair not in places:
        places[pair] = len(row)
        number, pair = _step_to(steps[pair], ranks, None)
        row.append(number)
    return pair, tuple(row[places[pair]:])


def _step_to(ways, ranks, rank):
    """The first of these steps to a pair of unlike states of this rank: None if it has no longest way."""
    for number, to in ways:
        if to is not None and ranks.get(to) == rank:
            return number, to
    return None


def _parting(automata, pair):
    """Two rows: one put behind, and one that stands after, with which two unlike states have unlike verdicts."""
    rows = {pair: ()}
    pairs = [pair]
    at = 0
    while at < len(pairs):
        x, y = pairs[at]
        for state, (one, other) in enumerate(zip(automata.verdicts[x], automata.verdicts[y])):
            if one != other:
                return rows[(x, y)], rows_to(automata.after)[state][::-1]
        for number, (one, other) in enumerate(zip(automata.before[x], automata.before[y])):
            to = pair_of(one, other)
            if to is not None and to not in rows:
                rows[to] = rows[(x, y)] + (number,)
                pairs.append(to)
        at += 1
    return None


def shows_beyond(table, side, evidence):
    """Whether evidence shows that no number is enough on a side."""
    automata = _seen_from(table, side)
    if not are_rows(evidence, 5, len(table.classes.names)):
        return False
    one, other, again, more, opposite = _turned(evidence, side)
    if not again:
        return False
    pair = (automata.state_before(one), automata.state_before(other))
    seen = {}
    while pair not in seen:
        if not _are_unlike(automata, pair, more, opposite):
            return False
        seen[pair] = True
        pair = (walked(automata.before, pair[0], again), walked(automata.before, pair[1], again))
    return True


def _are_unlike(automata, pair, more, opposite):
    """Whether the verdicts are unlike if a row is put behind two states, and another one stands after."""
    after = automata.state_after(opposite)
    x, y = pair
    one = automata.verdicts[walked(automata.before, x, more)][after]
    return one != automata.verdicts[walked(automata.before, y, more)][after]


def ranks_of(table, side):
    """For each pair of unlike states of a side that has a longest way over such pairs: how many steps it has."""
    return ranks_in(pair_steps(_seen_from(table, side).before))


def shows_within(table, side, many, ranks):
    """Whether ranks show that so many characters are enough on a side."""
    steps = pair_steps(_seen_from(table, side).before)
    if not is_integer(many) or not isinstance(ranks, dict):
        return False
    for pair in steps:
        if not is_integer(ranks.get(pair)) or not 0 <= ranks[pair] < many:
            return False
    for pair, ways in steps.items():
        for _, to in ways:
            if to is not None and ranks[to] >= ranks[pair]:
                return False
    return True


def too_few(table, side):
    """Rows that show that one character fewer than the least number is not enough; None if there is no such number."""
    automata = _seen_from(table, side)
    steps = pair_steps(automata.before)
    ranks = ranks_in(steps)
    if not steps or len(ranks) < len(steps):
        return None
    pair = max(ranks, key=lambda told: ranks[told])
    rows = rows_to(automata.before)
    piece, last = _longest_way(steps, ranks, pair)
    # All steps lead the last pair to one state: so its two states have unlike verdicts with nothing put behind them.
    _, opposite = _parting(automata, last)
    return _turned((rows[pair[0]], rows[pair[1]], piece, opposite), side)


def _longest_way(steps, ranks, pair):
    """The row of a longest way over pairs of unlike states, and the pair to which it leads."""
    row = []
    while ranks[pair] > 0:
        number, pair = _step_to(steps[pair], ranks, ranks[pair] - 1)
        row.append(number)
    return tuple(row), pair


def shows_too_few(table, side, many, evidence):
    """Whether evidence shows that so many characters are not enough on a side."""
    automata = _seen_from(table, side)
    if not is_integer(many) or not are_rows(evidence, 4, len(table.classes.names)):
        return False
    one, other, piece, opposite = _turned(evidence, side)
    pair = (automata.state_before(one), automata.state_before(other))
    return len(piece) >= many and _are_unlike(automata, pair, piece, opposite)
