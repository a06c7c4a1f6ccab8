"""Reads tables from texts."""

from cutsanywhere.classes import Classes
from cutsanywhere.errors import BadText
from cutsanywhere.names import OTHER, OWN_WORDS, VERDICTS
from cutsanywhere.patternreader import PatternReader
from cutsanywhere.ranges import less, ranges_of, union
from cutsanywhere.tables import Table
from cutsanywhere.tokens import Line


def read_table(text):
    """The table that a text tells; BadText tells the first place where it is wrong."""
    if not isinstance(text, str):
        raise BadText(0, 0)
    texts = text.split("\n")
    reader = TableReader()
    for at, told in enumerate(texts):
        reader.read(Line(at + 1, told))
    if reader.otherwise is None:
        raise BadText(len(texts), len(texts[-1]) + 1)
    return Table(Classes(reader.rows), reader.lines, reader.otherwise)


class TableReader:
    """What the lines that were read so far tell."""

    def __init__(self):
        self.rows = []
        self.covered = ()
        self.names = [OTHER]  # those that patterns and hide lines may tell
        self.lines = []
        self.otherwise = None

    def read(self, line):
        """Read one line more."""
        if line.kind() == "end":
            return
        if self.otherwise is not None:
            line.fail(line.at)
        if line.is_word(VERDICTS):
            self.lines.append(self._read_rule(line))
        elif line.is_word(("hide",)):
            self.lines.append(self._read_hide(line))
        elif line.is_word(("else",)):
            self.otherwise = self._read_else(line)
        else:
            self._read_class(line)

    def _read_rule(self, line):
        verdict = line.take()
        before_is_bound = line.is_word(("start",))
        if before_is_bound:
            line.take()
        before = PatternReader(line, self.names).read()
        line.take_sign("|")
        after = PatternReader(line, self.names).read()
        after_is_bound = line.is_word(("end",))
        if after_is_bound:
            line.take()
        line.take_end()
        return ("rule", verdict, (before_is_bound, before), (after_is_bound, after))

    def _read_hide(self, line):
        line.take()
        names = [line.take_word(self.names)]
        while line.kind() != "end":
            names.append(line.take_word(self.names))
        return ("hide", tuple(names))

    def _read_else(self, line):
        line.take()
        verdict = line.take_word(VERDICTS)
        line.take_end()
        return verdict

    def _read_class(self, line):
        if self.lines or not line.is_word(("class",)):
            line.fail(line.at)
        line.take()
        place = line.at
        if line.kind() != "word" or line.told() in OWN_WORDS or line.told() in self.names:
            line.fail(place)
        name = line.take()
        pairs = [_read_stretch(line)]
        while line.kind() != "end":
            pairs.append(_read_stretch(line))
        ranges = ranges_of(pairs)
        if not less(ranges, self.covered):
            line.fail(place)
        self.rows.append((name, ranges))
        self.names.append(name)
        self.covered = union(self.covered, ranges)


def _read_stretch(line):
    """A character, or two with a - between them: the code points from one to the other."""
    if line.kind() != "point":
        line.fail(line.at)
    first = line.take()
    if not line.is_sign("-"):
        return (first, first)
    line.take()
    if line.kind() != "point" or line.told() < first:
        line.fail(line.at)
    return (first, line.take())
