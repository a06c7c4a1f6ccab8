"""Rolls: texts that are edited, with marks that move along, and steps that can be taken back."""

from cutsanywhere.checks import check_between, check_stretch
from cutsanywhere.cutting import cuts_in, verdicts_of
from cutsanywhere.errors import BadThing
from cutsanywhere.names import is_word
from cutsanywhere.signs import is_text


class Together:
    """What a with statement takes to make the steps within it one step of a roll."""

    def __init__(self, roll):
        self.roll = roll

    def __enter__(self):
        roll = self.roll
        self.version = roll.version
        self.past = roll.past
        self.late = roll.late
        # The steps within are kept apart, so that they can be told from those ahead, and forgotten.
        roll.past = []
        return roll

    def __exit__(self, kind, value, trace):
        roll = self.roll
        if kind is not None:
            roll.version = self.version
            roll.late = self.late
        elif roll.past:
            self.past.append(self.version)
        roll.past = self.past


class Roll:
    """A text that is edited under a table, with marks in it.

    A version is a pair of a text and a dict of the places of its marks. None is ever modified: a step makes a new one.
    """

    def __init__(self, table, text):
        self.table = table
        self.version = (text, {})
        self.past = []  # the versions ahead of the steps that can be taken back, the last one's last
        self.late = []  # the versions behind the steps that can be done again, the next one's last

    def text(self):
        """The text as it is now."""
        return self.version[0]

    def size(self):
        """How many characters the text has now."""
        return len(self.text())

    def verdicts(self):
        """The verdicts at all positions of the text as it is now."""
        return verdicts_of(self.table, self.text())

    def cuts(self):
        """The cuts of the text as it is now."""
        return cuts_in(self.verdicts())

    def put(self, position, piece):
        """Put a piece into the text."""
        check_between(position, 0, self.size())
        text, marks = self.version
        late = {name: place + len(piece) if place > position else place for name, place in marks.items()}
        self._step(text[:position] + piece + text[position:], late)

    def take(self, position, many):
        """Take characters out of the text, and return them."""
        check_stretch(position, many, self.size())
        text, marks = self.version
        end = position + many
        late = {name: place - many if place > end else min(place, position) for name, place in marks.items()}
        self._step(text[:position] + text[end:], late)
        return text[position:end]

    def mark(self, name, position):
        """Lay a mark at a position, or move it there."""
        if not is_word(name):
            raise BadThing(name)
        check_between(position, 0, self.size())
        text, marks = self.version
        self._step(text, {**marks, name: position})

    def place(self, name):
        """Where a mark is."""
        if not is_word(name) or name not in self.version[1]:
            raise BadThing(name)
        return self.version[1][name]

    def _step(self, text, marks):
        self.past.append(self.version)
        self.late = []
        self.version = (text, marks)

    def undo(self):
        """Take the last step back; returns whether there was one."""
        if not self.past:
            return False
        self.late.append(self.version)
        self.version = self.past.pop()
        return True

    def redo(self):
        """Do the last step that was taken back again; returns whether there was one."""
        if not self.late:
            return False
        self.past.append(self.version)
        self.version = self.late.pop()
        return True

    def together(self):
        """For a with statement: the steps within are one step, and none if an error leaves them."""
        return Together(self)

    def do_all(self, edits):
        """Do edits together: puts, takes and marks, each told as a tuple."""
        with self.together():
            for edit in edits:
                self._do(edit)

    def _do(self, edit):
        if not isinstance(edit, tuple) or len(edit) != 3:
            raise BadThing(edit)
        word, one, other = edit
        if word == "put" and is_text(other):
            self.put(one, other)
        elif word == "take":
            self.take(one, other)
        elif word == "mark":
            self.mark(one, other)
        else:
            raise BadThing(edit)
