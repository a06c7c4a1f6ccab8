"""Patterns in the lines of tables' texts."""

from cutsanywhere.tables import MOST_ITEMS

MOST_OPEN = 5
ITEM_WORDS = ("any", "not")
REPEATS = {"*": "star", "+": "plus", "?": "maybe"}


class PatternReader:
    """Reads one pattern from a line, in which just these names may stand."""

    def __init__(self, line, names):
        self.line = line
        self.names = names
        self.many = 0
        self.brackets = 0

    def read(self):
        """The pattern that is next in the line, perhaps nothing."""
        if not self._is_part_next():
            return ("row", ())
        return self._read_either()

    def _is_part_next(self):
        """Whether the next token begins an item or a bracket."""
        return self.line.is_sign("(") or self.line.is_word(ITEM_WORDS) or self.line.is_word(self.names)

    def _read_either(self):
        parts = [self._read_row()]
        while self.line.is_sign("/"):
            self.line.take()
            parts.append(self._read_row())
        return parts[0] if len(parts) == 1 else ("either", tuple(parts))

    def _read_row(self):
        parts = [self._read_repeated()]
        while self._is_part_next():
            parts.append(self._read_repeated())
        return parts[0] if len(parts) == 1 else ("row", tuple(parts))

    def _read_repeated(self):
        part = self._read_bracket() if self.line.is_sign("(") else self._read_item()
        if self.line.is_sign("*+?"):
            return (REPEATS[self.line.take()], part)
        return part

    def _read_bracket(self):
        if self.brackets == MOST_OPEN:
            self.line.fail(self.line.at)
        self.line.take_sign("(")
        self.brackets += 1
        part = self._read_either()
        self.line.take_sign(")")
        self.brackets -= 1
        return part

    def _read_item(self):
        if not self._is_part_next() or self.many == MOST_ITEMS:
            self.line.fail(self.line.at)
        self.many += 1
        if self.line.is_word(self.names):
            return ("class", self.line.take())
        if self.line.take() == "any":
            return ("any",)
        return ("not", self.line.take_word(self.names))
