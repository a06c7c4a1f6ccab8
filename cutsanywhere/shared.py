"""Meetings: several editors of one text, whose changes go to and fro as letters."""

from cutsanywhere.changes import change_at, changed, composed, crossed
from cutsanywhere.checks import check_between

MOST_EDITORS = 8


class Editor:
    """One who edits a text of its own, and sends its changes to the common one.

    Of its changes that are not done yet there are at most two: the one that was sent, and the one that waits, into
    which all is composed that was done since. Both are kept as they are for the text as it is now.
    """

    def __init__(self, text):
        self.text = text
        self.known = 0  # how many changes of the log are in its text, or were its own
        self.sent = None
        self.waits = None
        self.up = []  # letters on their way from it: (known, change)
        self.down = []  # letters on their way to it: a change, or None when its own one is done

    def do(self, change):
        """Do a change of its own."""
        self.text = changed(self.text, change)
        if self.sent is None:
            self._send(change)
        elif self.waits is None:
            self.waits = change
        else:
            self.waits = composed(self.waits, change)

    def _send(self, change):
        self.sent = change
        self.up.append((self.known, change))

    def read_letter(self):
        """Read the first letter that is on its way to it."""
        change = self.down.pop(0)
        self.known += 1
        if change is None:
            self._go_on()
        else:
            self._follow(change)

    def _go_on(self):
        """Its own change is done: the one that waits is sent."""
        change = self.waits
        self.sent = None
        self.waits = None
        if change is not None:
            self._send(change)

    def _follow(self, change):
        """Do what another one did: it is crossed with its own changes that are not done yet, standing first."""
        if self.sent is not None:
            change, self.sent = crossed(change, self.sent)
        if self.waits is not None:
            change, self.waits = crossed(change, self.waits)
        self.text = changed(self.text, change)


class Meeting:
    """A common text, and editors of it."""

    def __init__(self, text, many):
        check_between(many, 1, MOST_EDITORS)
        self.text = text
        self.log = []
        self.editors = [Editor(text) for _ in range(many)]

    def _editor(self, who):
        check_between(who, 0, len(self.editors) - 1)
        return self.editors[who]

    def edit(self, who, position, many, piece):
        """Let an editor put a piece in the place of so many characters of its own text."""
        editor = self._editor(who)
        editor.do(change_at(editor.text, position, many, piece))

    def come_up(self, who):
        """Let the first letter from an editor come to the common text; returns whether there was one."""
        editor = self._editor(who)
        if not editor.up:
            return False
        known, change = editor.up.pop(0)
        for told in self.log[known:]:
            _, change = crossed(told, change)
        self.text = changed(self.text, change)
        self.log.append(change)
        for number, reader in enumerate(self.editors):
            reader.down.append(None if number == who else change)
        return True

    def come_down(self, who):
        """Let the first letter to an editor come; returns whether there was one."""
        editor = self._editor(who)
        if not editor.down:
            return False
        editor.read_letter()
        return True

    def under_way(self):
        """How many letters are on their way, up or down."""
        return sum([len(editor.up) + len(editor.down) for editor in self.editors])

    def settle(self):
        """Let all letters come, also those sent meanwhile; returns how many there were."""
        many = 0
        while self.under_way() > 0:
            for who in range(len(self.editors)):
                while self.come_up(who) or self.come_down(who):
                    many += 1
        return many
