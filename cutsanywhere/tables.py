"""Tables of rules, and what they say between two rows."""

from cutsanywhere.automata import automata_of, first_in
from cutsanywhere.classes import common_classes
from cutsanywhere.crowds import Crowd
from cutsanywhere.errors import BadTable
from cutsanywhere.names import OTHER, VERDICTS
from cutsanywhere.patterns import is_pattern, items_of, names_in, reversed_pattern

MOST_ITEMS = 60
MOST_CLASSES = 20
MOST_RULES = 30
MOST_HIDE_LINES = 2
MOST_LONG_ITEMS = 8
MOST_COMMON = 40


class Table:
    """Rules over the classes of a map: lines in order, and the verdict otherwise."""

    def __init__(self, classes, lines, otherwise):
        for number, line in enumerate(lines):
            if not _is_line(line, classes.names):
                raise BadTable(number, "no line of a table over these classes")
        if otherwise not in VERDICTS:
            raise BadTable(len(lines), "otherwise is no verdict")
        self.classes = classes
        self.lines = tuple(lines)
        self.otherwise = otherwise
        self.rules = _rules_of(lines, classes.names)
        # A side after is read from its far end: so its pattern is turned about, and both sides are met alike.
        self.befores = Crowd([(*before, hidden) for _, before, _, hidden in self.rules], classes.names)
        self.afters = Crowd(
            [(is_bound, reversed_pattern(pattern), hidden) for _, _, (is_bound, pattern), hidden in self.rules],
            classes.names,
        )
        self._automata = None
        self._rule_automata = None

    def automata(self):
        """The automata that tell the verdict."""
        if self._automata is None:
            verdicts = [rule[0] for rule in self.rules]
            self._automata = automata_of(self.befores, self.afters, [*verdicts, self.otherwise])
        return self._automata

    def rule_automata(self):
        """The automata that tell the number of the rule that decides, None without one."""
        if self._rule_automata is None:
            numbers = list(range(len(self.rules)))
            self._rule_automata = automata_of(self.befores, self.afters, [*numbers, None])
        return self._rule_automata


def _is_line(thing, names):
    """Whether it is a line of a table over classes of these names."""
    if not isinstance(thing, tuple) or not thing:
        return False
    if thing[0] == "hide":
        return len(thing) == 2 and _is_hidden(thing[1], names)
    if thing[0] != "rule" or len(thing) != 4:
        return False
    return thing[1] in VERDICTS and _is_side(thing[2], names) and _is_side(thing[3], names)


def _is_hidden(thing, names):
    """Whether it is a tuple of names, one at least."""
    return isinstance(thing, tuple) and len(thing) > 0 and _are_names(thing, names)


def _are_names(told, names):
    for name in told:
        if name not in names and name != OTHER:
            return False
    return True


def _is_side(thing, names):
    """Whether it is a side of a rule: (is_bound, pattern)."""
    if not isinstance(thing, tuple) or len(thing) != 2 or not isinstance(thing[0], bool):
        return False
    if not is_pattern(thing[1]) or items_of(thing[1]) > MOST_ITEMS:
        return False
    return _are_names(names_in(thing[1]), names)


def _rules_of(lines, names):
    """The rules, each with the names that the hide lines ahead of it tell."""
    told = []
    rules = []
    for line in lines:
        if line[0] == "hide":
            told.extend(line[1])
        else:
            hidden = tuple([name for name in names if name in told])
            rules.append((line[1], line[2], line[3], hidden))
    return tuple(rules)


def _deciding(table, before, after):
    """The number of the rule that decides between two rows, -1 without one."""
    befores = table.befores.fitting(table.befores.state_of(before))
    afters = table.afters.fitting(table.afters.state_of(after[::-1]))
    return first_in(befores & afters)


def rule_at(table, before, after):
    """The number of the rule that decides between two rows, None without one."""
    number = _deciding(table, before, after)
    return None if number < 0 else number


def verdict_at(table, before, after):
    """The verdict between two rows."""
    number = _deciding(table, before, after)
    return table.otherwise if number < 0 else table.rules[number][0]


def is_light(table):
    """Whether a table is small enough for all that the package works out about tables."""
    if len(table.classes.names) > MOST_CLASSES or len(table.rules) > MOST_RULES:
        return False
    if len(table.lines) - len(table.rules) > MOST_HIDE_LINES:
        return False
    return max(_long_items(table, 1), _long_items(table, 2)) <= MOST_LONG_ITEMS


def _long_items(table, at):
    """How many items the long patterns of the sides at a place of the rules have together."""
    many = 0
    for rule in table.rules:
        is_bound, pattern = rule[at]
        items = items_of(pattern)
        if items > 1 or is_bound:
            many += items
    return many


def are_light(one, other):
    """Whether two tables are light, and together small enough for all that the package works out about pairs.

    Two light tables have few enough hide lines, and items in long patterns, together: that need not be asked.
    """
    if not is_light(one) or not is_light(other) or len(one.rules) + len(other.rules) > MOST_RULES:
        return False
    return len(common_classes(one.classes, other.classes)) <= MOST_COMMON
