"""The parts of changes: what is skipped, put in and taken out, from the left."""

SKIP = "skip"
PUT = "put"
TAKE = "take"


def size_of(part):
    """How many characters a part skips, puts in or takes out."""
    kind, told = part
    return told if kind == SKIP else len(told)


class Parts:
    """The parts of a change, read one after the other, in pieces where that is needed."""

    def __init__(self, change):
        self._left = list(change[::-1])  # the next part is the last one

    def kind(self):
        """The kind of the part that is next, None behind the last one."""
        return self._left[-1][0] if self._left else None

    def size(self):
        """How many characters the next part is about."""
        return size_of(self._left[-1])

    def take(self):
        """The next part."""
        return self._left.pop()

    def take_first(self, many):
        """The next part as far as its first characters go; the rest of it is next then."""
        kind, told = self._left.pop()
        if size_of((kind, told)) == many:
            return (kind, told)
        if kind == SKIP:
            self._left.append((kind, told - many))
            return (kind, many)
        self._left.append((kind, told[many:]))
        return (kind, told[:many])
