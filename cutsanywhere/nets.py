"""Nets: which items of a pattern may stand first, last, and behind one another.

A set of items is an integer: its bit i tells whether the item i is in it.
"""

REPEATED = ("star", "plus", "maybe")


def numbers_in(items):
    """The numbers in a set of items, from the greatest on."""
    numbers = []
    while items:
        last = items.bit_length() - 1
        numbers.append(last)
        items = items ^ 1 << last
    return numbers


class Net:
    """The items of a pattern, in order, and how a row is laid over them.

    spots are the items; follows tells for each of them which ones may stand right behind it; firsts and lasts are
    those with which a match may begin and end; is_void tells whether the empty row matches, too.
    """

    def __init__(self, pattern):
        self.spots = []
        self.follows = []
        self.is_void, self.firsts, self.lasts = self._weave(pattern)

    def _weave(self, pattern):
        """Lay a part in, and tell (is_void, firsts, lasts) of it."""
        kind = pattern[0]
        if kind == "row":
            return self._weave_row(pattern[1])
        if kind == "either":
            return self._weave_either(pattern[1])
        if kind in REPEATED:
            return self._weave_repeated(kind, pattern[1])
        own = 1 << len(self.spots)
        self.spots.append(pattern)
        self.follows.append(0)
        return False, own, own

    def _weave_row(self, parts):
        is_void, firsts, lasts = True, 0, 0
        for part in parts:
            part_is_void, part_firsts, part_lasts = self._weave(part)
            self._tie(lasts, part_firsts)
            if is_void:
                firsts = firsts | part_firsts
            lasts = lasts | part_lasts if part_is_void else part_lasts
            is_void = is_void and part_is_void
        return is_void, firsts, lasts

    def _weave_either(self, parts):
        is_void, firsts, lasts = False, 0, 0
        for part in parts:
            part_is_void, part_firsts, part_lasts = self._weave(part)
            is_void = is_void or part_is_void
            firsts = firsts | part_firsts
            lasts = lasts | part_lasts
        return is_void, firsts, lasts

    def _weave_repeated(self, kind, part):
        is_void, firsts, lasts = self._weave(part)
        if kind != "maybe":
            self._tie(lasts, firsts)
        return is_void or kind != "plus", firsts, lasts

    def _tie(self, lasts, firsts):
        """Let each of the firsts stand behind each of the lasts."""
        for spot in numbers_in(lasts):
            self.follows[spot] = self.follows[spot] | firsts
