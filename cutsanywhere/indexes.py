"""Indexes: the cuts of a text, found by their numbers and by positions."""

from cutsanywhere.checks import check_between
from cutsanywhere.cutting import cuts_of


class Index:
    """The cuts of one text under one table."""

    def __init__(self, table, text):
        self.size = len(text)
        self._cuts = cuts_of(table, text)

    def count(self):
        """How many cuts the text has."""
        return len(self._cuts)

    def nth(self, number):
        """The position of the cut of this number, from 0 on."""
        check_between(number, 0, len(self._cuts) - 1)
        return self._cuts[number]

    def before(self, position):
        """How many cuts are less than a position."""
        check_between(position, 0, self.size)
        low = 0
        high = len(self._cuts)
        while low < high:
            middle = (low + high) // 2
            if self._cuts[middle] < position:
                low = middle + 1
            else:
                high = middle
        return low
