"""Sums: what a piece of a text does to the texts in which it stands, and sums put together.

A cell is (count, first, last, longest): how many positions strictly within a piece are cuts, how long the piece is up
to the first of them and from the last one on, and the longest distance between two neighbours of them.
"""

from cutsanywhere.errors import BadThing
from cutsanywhere.names import KEEP

NO_SPAN = (0, 0, 0, 0)


class Sum:
    """What a piece of a text does: the states that it leads to, and its cuts, for all that may stand around it."""

    def __init__(self, automata, size, forward, backward, cells):
        self.kinds = automata
        self.size = size
        self.forward = forward
        self.backward = backward
        self.cells = cells

    def cell(self, x, y):
        """The cell for a state before the piece and a state of what stands after it."""
        return self.cells[x][y]

    def told(self):
        """Of the piece as a whole text: how many cuts it has, and how long its longest unit is."""
        count, first, last, longest = self.cells[0][0]
        return (count, max(first, last, longest))

    def __add__(self, other):
        if not isinstance(other, Sum):
            return NotImplemented
        if not _are_equal(self.kinds, other.kinds):
            raise BadThing(other)
        return Sum(
            self.kinds,
            self.size + other.size,
            tuple([other.forward[x] for x in self.forward]),
            tuple([self.backward[y] for y in other.backward]),
            _cells_of_both(self, other),
        )


def _are_equal(one, other):
    """Whether two automata are equal."""
    return (one.before, one.after, one.verdicts) == (other.before, other.after, other.verdicts)


def _cells_of_both(one, other):
    """The cells of two pieces, the one behind the other, as one piece."""
    cells = [[_cell_of_both(one, other, x, y) for y in range(len(other.backward))] for x in range(len(one.forward))]
    return tuple([tuple(row) for row in cells])


def _cell_of_both(one, other, x, y):
    middle = one.forward[x]
    back = other.backward[y]
    # Beside an empty piece, the place between the two is not strictly within both.
    is_within = one.size > 0 and other.size > 0
    is_cut = is_within and one.kinds.verdicts[middle][back] != KEEP
    return _joined(one.cells[x][back], other.cells[middle][y], (one.size, other.size), is_cut)


def _joined(cell, late, sizes, is_cut):
    """The cell of two pieces with these cells and sizes, as one piece; is_cut tells whether a cut is between them."""
    count, first, last, longest = cell
    late_count, late_first, late_last, late_longest = late
    longest = max(longest, late_longest)
    if is_cut:
        # A piece without a cut tells its size as its first and last: this is no distance between neighbours.
        near = last if count else 0
        far = late_first if late_count else 0
        return (count + late_count + 1, first, late_last, max(longest, near, far))
    if count and late_count:
        longest = max(longest, last + late_first)
    return (
        count + late_count,
        first if count else sizes[0] + late_first,
        late_last if late_count else last + sizes[1],
        longest,
    )


def sum_of(table, text):
    """The sum of a piece of a text."""
    automata = table.automata()
    row = table.classes.row_of(text)
    return Sum(
        automata,
        len(row),
        tuple(_all_along(automata.before, row)),
        tuple(_all_along(automata.after, row[::-1])),
        _cells_of(automata, row),
    )


def _all_along(ways, row):
    """For each state the one to which a row leads it, in the order in which it is read."""
    states = list(range(len(ways)))
    for number in row:
        states = [ways[state][number] for state in states]
    return states


def _cells_of(automata, row):
    """The cells of a piece, for all states before and after it."""
    if len(row) < 2:
        cell = (0, len(row), len(row), 0)
        return tuple([(cell,) * len(automata.after)] * len(automata.before))
    # Behind its first character, and ahead of its last one, few states are left.
    firsts = [steps[row[0]] for steps in automata.before]
    lasts = [steps[row[-1]] for steps in automata.after]
    states = _states_at_positions(automata.before, row, firsts)
    cells = {last: _cells_with(automata, row, states, last) for last in sorted(set(lasts))}
    return tuple([tuple([cells[last][first] for last in lasts]) for first in firsts])


def _states_at_positions(ways, row, firsts):
    """For the positions from 1 to the end of a row, all states that may be there: at position 1 these ones."""
    found = [sorted(set(firsts))]
    for number in row[1:]:
        found.append(sorted({ways[state][number] for state in found[-1]}))
    return found


def _cells_with(automata, row, states, last):
    """For each state at position 1 the cell of the row, if the state after its last position but one is this one."""
    spans = {state: NO_SPAN for state in states[-1]}
    after = last
    for position in range(len(row) - 1, 0, -1):
        told = {}
        for state in states[position - 1]:
            is_cut = automata.verdicts[state][after] != KEEP
            told[state] = _with_position(position, is_cut, spans[automata.before[state][row[position]]])
        spans = told
        after = automata.after[after][row[position - 1]]
    return {state: _cell_by(span, len(row)) for state, span in spans.items()}


def _with_position(position, is_cut, span):
    """A span is (count, first, last, longest) of cuts told by their positions: one with a position ahead of it."""
    if not is_cut:
        return span
    count, first, last, longest = span
    if count == 0:
        return (1, position, position, 0)
    return (count + 1, position, last, max(longest, first - position))


def _cell_by(span, size):
    """The cell of a piece of this size by its span."""
    count, first, last, longest = span
    return (count, first, size - last, longest) if count else (0, size, size, 0)
