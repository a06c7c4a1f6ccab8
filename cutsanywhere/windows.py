"""Windows: all that a table says, by the characters right before and right after a position."""

from cutsanywhere.errors import BadThing, TooMany
from cutsanywhere.forgetting import reach

MOST_WINDOWS = 5000


def windows(table):
    """The least numbers of characters that are enough, and the verdicts between all rows of at most so many."""
    told = reach(table)
    if told[0] == "beyond":
        raise BadThing(told[1])
    _, many_before, many_after = told
    many = len(table.classes.names)
    count = _count_of_rows(many, many_before) * _count_of_rows(many, many_after)
    if count > MOST_WINDOWS:
        raise TooMany(count)
    automata = table.automata()
    afters = _rows_of(many, many_after)
    verdicts = {}
    for before in _rows_of(many, many_before):
        for after in afters:
            verdicts[(before, after)] = automata.verdict(before, after)
    return (many_before, many_after, verdicts)


def _count_of_rows(many, longest):
    """How many rows of so many classes have at most so many characters."""
    count = 1
    for _ in range(longest):
        count = count * many + 1
    return count


def _rows_of(many, longest):
    """All rows of so many classes that have at most so many characters."""
    rows = [()]
    last = [()]
    for _ in range(longest):
        last = [row + (number,) for row in last for number in range(many)]
        rows.extend(last)
    return rows


def by_windows(found, row):
    """The verdicts at the positions of a row, by what windows returned."""
    many_before, many_after, verdicts = found
    told = []
    for position in range(len(row) + 1):
        before = row[max(0, position - many_before):position]
        told.append(verdicts[(before, row[position:position + many_after])])
    return tuple(told)
