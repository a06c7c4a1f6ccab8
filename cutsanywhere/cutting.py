"""Cuts complete texts."""

from cutsanywhere.names import KEEP
from cutsanywhere.tables import verdict_at


def verdicts_of(table, text):
    """The verdicts at all positions of a text."""
    return row_verdicts(table.automata(), table.classes.row_of(text))


def plain_verdicts(table, text):
    """The verdicts at all positions of a text, by the table's rules instead of its automata."""
    row = table.classes.row_of(text)
    return tuple([verdict_at(table, row[:position], row[position:]) for position in range(len(row) + 1)])


def row_verdicts(automata, row):
    """What automata tell at all positions of a row."""
    befores = _states_along(automata.before, row)
    afters = _states_along(automata.after, row[::-1])
    return tuple([automata.verdicts[x][y] for x, y in zip(befores, afters[::-1])])


def _states_along(ways, row):
    """The states to which the beginnings of a row lead, from the empty one on."""
    states = [0]
    for number in row:
        states.append(ways[states[-1]][number])
    return states


class Cutter:
    """Tells the verdicts of texts under one table."""

    def __init__(self, table):
        self._classes = table.classes
        self._automata = table.automata()

    def __call__(self, text):
        return row_verdicts(self._automata, self._classes.row_of(text))


def cuts_in(verdicts):
    """The cuts of a text by the verdicts at all its positions."""
    last = len(verdicts) - 1
    return tuple([position for position, told in enumerate(verdicts) if 0 < position < last and told != KEEP])


def cuts_of(table, text):
    """The cuts of a text."""
    return cuts_in(verdicts_of(table, text))


def units_of(table, text):
    """The pieces of a text between its cuts."""
    if not text:
        return ()
    cuts = cuts_of(table, text)
    return tuple([text[first:last] for first, last in zip((0, *cuts), (*cuts, len(text)))])
