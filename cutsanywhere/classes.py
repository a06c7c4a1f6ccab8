"""Classes of characters: maps that give each code point one class."""

from cutsanywhere.errors import BadTable
from cutsanywhere.names import OTHER, is_name
from cutsanywhere.ranges import ALL, is_ranges, less, union


class Classes:
    """A map of classes: a character belongs to the first row that has it, otherwise to the class other."""

    def __init__(self, rows):
        names = []
        ranges = []
        covered = ()
        for row in rows:
            _check_row(row, names, covered)
            names.append(row[0])
            ranges.append(less(row[1], covered))
            covered = union(covered, row[1])
        if covered != ALL:
            names.append(OTHER)
            ranges.append(less(ALL, covered))
        self.rows = tuple(rows)
        self.names = tuple(names)
        self.ranges = tuple(ranges)
        self.starts = _starts_of(ranges)

    def __getitem__(self, at):
        """The number of the class of a character."""
        return _number_at(self.starts, ord(at))

    def __iter__(self):
        raise TypeError("a map of classes is asked for one character at a time")

    def row_of(self, text):
        """The numbers of the classes of a text's characters."""
        known = {}
        for character in text:
            if character not in known:
                known[character] = self[character]
        return tuple([known[character] for character in text])

    def number_of(self, name):
        """The number of a class by its name, -1 if there is none."""
        for number, told in enumerate(self.names):
            if told == name:
                return number
        return -1

    def first_point(self, number):
        """The least code point of a class."""
        return self.ranges[number][0][0]


def _check_row(row, names, covered):
    """Raise BadTable if a row cannot stand behind rows of these names that cover this much."""
    if not isinstance(row, tuple) or len(row) != 2:
        raise BadTable("", "a row is no pair of a name and ranges")
    name, ranges = row
    if not is_name(name) or name == OTHER:
        raise BadTable(name, "a row is not named so")
    if not is_ranges(ranges):
        raise BadTable(name, "a row's ranges are none")
    if name in names:
        raise BadTable(name, "an earlier row has this name")
    if not less(ranges, covered):
        raise BadTable(name, "a row adds no character")


def _starts_of(ranges):
    """The first code point of each stretch, with the number of its class."""
    starts = []
    for number, stretches in enumerate(ranges):
        for first, _ in stretches:
            starts.append((first, number))
    return tuple(sorted(starts))


def _number_at(starts, point):
    """The number beside the last start that is not above a code point."""
    low = 0
    high = len(starts)
    while high - low > 1:
        middle = (low + high) // 2
        if starts[middle][0] <= point:
            low = middle
        else:
            high = middle
    return starts[low][1]


def common_classes(one, other):
    """The pairs of numbers of classes, of one map and of the other, that have a character in common."""
    points = [first for first, _ in one.starts + other.starts]
    return tuple(sorted({(_number_at(one.starts, point), _number_at(other.starts, point)) for point in points}))


def are_same_maps(one, other):
    """Whether two maps have the same names and the same ranges."""
    return one.names == other.names and one.ranges == other.ranges
