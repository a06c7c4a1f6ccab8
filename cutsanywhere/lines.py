"""Sets lines: ends them at cuts so that they cost as little as can be."""

from cutsanywhere.checks import are_between, check_between
from cutsanywhere.cutting import cuts_in, verdicts_of
from cutsanywhere.errors import BadThing
from cutsanywhere.names import MUST
from cutsanywhere.signs import is_integer

MOST_WIDTH = 100
MOST_LIMIT = 1000
COST_BEYOND = 10000


class Setting:
    """The places of a text, in order, and the lines that may be between them. A place is told by its number here."""

    def __init__(self, table, widths, text, limit):
        if not are_between(widths, len(table.classes.names), MOST_WIDTH):
            raise BadThing(widths)
        check_between(limit, 1, MOST_LIMIT)
        verdicts = verdicts_of(table, text)
        wide = _widths_ahead(table.classes.row_of(text), widths)
        self.limit = limit
        self.places = (0, *cuts_in(verdicts), len(text)) if text else (0,)
        self.last = len(self.places) - 1
        self.wide = [wide[place] for place in self.places]
        # Where a line ends for sure, it costs nothing that it is short.
        self.is_sure = [place == len(text) or verdicts[place] == MUST for place in self.places]

    def lines_from(self, first):
        """The lines that may begin at a place: a list of (place where it ends, cost), the shorter ones first."""
        lines = []
        for end in range(first + 1, self.last + 1):
            left = self.limit - (self.wide[end] - self.wide[first])
            if left < 0:
                if end == first + 1:
                    lines.append((end, -left * COST_BEYOND))
                break
            lines.append((end, 0 if self.is_sure[end] else left * left))
            if self.is_sure[end]:
                break
        return lines

    def cost_of(self, ends):
        """What the lines that end at these positions cost; None if these are no lines of the whole text."""
        numbers = {place: number for number, place in enumerate(self.places)}
        total = 0
        at = 0
        for end in ends:
            costs = dict(self.lines_from(at))
            if not is_integer(end) or numbers.get(end) not in costs:
                return None
            at = numbers[end]
            total += costs[at]
        return total if at == self.last else None


def _widths_ahead(row, widths):
    """For each position how wide all that stands ahead of it is."""
    found = [0]
    for number in row:
        found.append(found[-1] + widths[number])
    return found


def set_lines(table, widths, text, limit):
    """The least cost of lines of a text, and where they end: of equal ones those of which the first are longest."""
    setting = Setting(table, widths, text, limit)
    costs, nexts = _best_from(setting)
    ends = []
    at = 0
    while at < setting.last:
        at = nexts[at]
        ends.append(setting.places[at])
    return (costs[0], tuple(ends))


def _best_from(setting):
    """For each place the least cost of lines from it to the end, and where the first of them ends, farthest."""
    costs = [0] * len(setting.places)
    nexts = [None] * len(setting.places)
    for first in reversed(range(setting.last)):
        for end, cost in setting.lines_from(first):
            total = cost + costs[end]
            if nexts[first] is None or total <= costs[first]:
                costs[first] = total
                nexts[first] = end
    return costs, nexts


def roll_lines(roll, widths, limit):
    """The same for the text of a roll as it is now."""
    return set_lines(roll.table, widths, roll.text(), limit)


def heights_for(table, widths, text, limit):
    """For each place the least cost of lines from the text's beginning to it."""
    setting = Setting(table, widths, text, limit)
    heights = {0: 0}
    for first, place in enumerate(setting.places):
        for end, cost in setting.lines_from(first):
            total = heights[place] + cost
            position = setting.places[end]
            heights[position] = min(total, heights.get(position, total))
    return heights


def shows_least(table, widths, text, limit, ends, heights):
    """Whether lines end so, and heights show that no lines cost less."""
    setting = Setting(table, widths, text, limit)
    if not isinstance(ends, tuple) or not _are_heights(heights):
        return False
    cost = setting.cost_of(ends)
    if cost is None or heights.get(0) != 0 or heights.get(len(text)) != cost:
        return False
    return _none_is_too_high(setting, heights)


def _are_heights(thing):
    """Whether it is a dict to integers."""
    return isinstance(thing, dict) and all([is_integer(height) for height in thing.values()])


def _none_is_too_high(setting, heights):
    """Whether no line leads from a place that has a height to one that has none, or has more than that and its cost."""
    for first, place in enumerate(setting.places):
        if place in heights:
            for end, cost in setting.lines_from(first):
                height = heights.get(setting.places[end])
                if height is None or height > heights[place] + cost:
                    return False
    return True
