"""Crowds: many patterns met at once, while a row is read towards one place.

A crowd's state is an integer, a set of items of all its patterns: those that the character read last was met by.
"""

from cutsanywhere.nets import Net, numbers_in


def does_fit(item, name):
    """Whether an item matches a character of the class of this name."""
    if item[0] == "any":
        return True
    return (item[1] == name) == (item[0] == "class")


class Crowd:
    """Patterns that each match an end of the row that was read, or, if bound, the whole row.

    Each side is (is_bound, pattern, hidden): characters of hidden classes are left out of the row for this pattern.
    """

    def __init__(self, sides, names):
        self.begin = 0  # the state of the empty row
        self.always = 0  # the items with which a match may begin anywhere
        self.sure = 0  # the sides that fit every row
        self.ends = []  # for each side the items with which it fits
        self.follows = []
        self.met = [0] * len(names)  # for each class the items that a character of it meets
        self.kept = [0] * len(names)  # for each class the items that do not see its characters
        for is_bound, pattern, hidden in sides:
            low = len(self.follows)
            self._enter(is_bound, Net(pattern), names)
            self._hide(hidden, names, (1 << len(self.follows)) - (1 << low))

    def _enter(self, is_bound, net, names):
        low = len(self.follows)
        firsts = net.firsts << low
        ends = net.lasts << low
        self.follows.extend([follows << low for follows in net.follows])
        for number, name in enumerate(names):
            for spot, item in enumerate(net.spots):
                if does_fit(item, name):
                    self.met[number] = self.met[number] | 1 << (low + spot)
        if is_bound:
            # The beginning of the row counts as one item more, which no character meets.
            beginning = 1 << len(self.follows)
            self.follows.append(firsts)
            self.begin = self.begin | beginning
            if net.is_void:
                ends = ends | beginning
        else:
            self.always = self.always | firsts
            if net.is_void:
                self.sure = self.sure | 1 << len(self.ends)
        self.ends.append(ends)

    def _hide(self, hidden, names, items):
        for number, name in enumerate(names):
            if name in hidden:
                self.kept[number] = self.kept[number] | items
                self.met[number] = self.met[number] & ~items

    def steps(self, state):
        """The states behind this one, for one more character of each class."""
        ahead = self._ahead(state)
        return [ahead & met | state & kept for met, kept in zip(self.met, self.kept)]

    def _ahead(self, state):
        """The items that may stand next."""
        found = self.always
        for item in numbers_in(state):
            found = found | self.follows[item]
        return found

    def state_of(self, row):
        """The state in which a row leaves the crowd."""
        state = self.begin
        for number in row:
            state = self._ahead(state) & self.met[number] | state & self.kept[number]
        return state

    def fitting(self, state):
        """The sides that fit a row that leads to this state, as a set of their numbers."""
        found = self.sure
        for number, ends in enumerate(self.ends):
            if state & ends:
                found = found | 1 << number
        return found
