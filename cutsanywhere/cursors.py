"""Cursors: a place in a roll that goes from cut to cut, and edits where it stands."""

from cutsanywhere.errors import BadThing

WORDS = ("delete", "erase", "home", "last", "left", "redo", "right", "undo")


class Cursor:
    """A place in a roll; position may be beyond a roll that became shorter from outside, where() never is."""

    def __init__(self, roll):
        self.roll = roll
        self.position = 0

    def where(self):
        """The position at which it stands in the text as it is now."""
        return min(self.position, self.roll.size())

    def words(self):
        """The words that it does."""
        return WORDS

    def do(self, word):
        """Do one of its words."""
        if word not in WORDS:
            raise BadThing(word)
        actions = {
            "delete": self.delete,
            "erase": self.erase,
            "home": self.home,
            "last": self.last,
            "left": self.left,
            "redo": self.redo,
            "right": self.right,
            "undo": self.undo,
        }
        action = actions[word]
        action()

    def left(self):
        """Go to the last cut ahead, or to the text's beginning."""
        self.position = self._ahead()

    def right(self):
        """Go to the first cut behind, or to the text's end."""
        self.position = self._behind()

    def home(self):
        """Go to the text's beginning."""
        self.position = 0

    def last(self):
        """Go to the text's end."""
        self.position = self.roll.size()

    def erase(self):
        """Take out what stands between it and where left goes."""
        self._take(self._ahead(), self.where())

    def delete(self):
        """Take out what stands between it and where right goes."""
        self._take(self.where(), self._behind())

    def undo(self):
        """Take the roll's last step back."""
        place = self.where()
        self.roll.undo()
        self.position = min(place, self.roll.size())

    def redo(self):
        """Do the roll's last step that was taken back again."""
        place = self.where()
        self.roll.redo()
        self.position = min(place, self.roll.size())

    def enter(self, piece):
        """Put a piece in where it stands, and go behind it."""
        place = self.where()
        self.roll.put(place, piece)
        self.position = place + len(piece)

    def _ahead(self):
        place = self.where()
        return max([cut for cut in self.roll.cuts() if cut < place], default=0)

    def _behind(self):
        place = self.where()
        return min([cut for cut in self.roll.cuts() if cut > place], default=self.roll.size())

    def _take(self, first, last):
        if first < last:
            self.roll.take(first, last - first)
        self.position = first
