"""Patterns and tables by chance (of a fixed seed), rows, and the definitions told a second time, for the tests."""

import itertools
import re

from cutsanywhere.classes import Classes
from cutsanywhere.patterns import does_match
from cutsanywhere.tables import Table

VERDICTS = ("keep", "may", "must")
ABC = Classes([("a", ((97, 97),)), ("b", ((98, 98),))])  # and other
FULL = Classes([("a", ((0, 97),)), ("b", ((98, 55295), (57344, 1114111)))])  # other has no character
EMPTY = ("row", ())


def rows_of(many, length):
    """All rows of classes 0 to many - 1 of at most so many characters."""
    for size in range(length + 1):
        yield from itertools.product(range(many), repeat=size)


def item_by(chance, names):
    kind = chance.choice(("class", "class", "any", "not"))
    return ("any",) if kind == "any" else (kind, chance.choice(names))


def pattern_by(chance, names, depth):
    """A pattern of any form: rows and eithers of any number of parts, stars within stars."""
    if depth == 0 or chance.random() < 0.25:
        return EMPTY if chance.random() < 0.1 else item_by(chance, names)
    kind = chance.choice(("row", "row", "either", "star", "plus", "maybe"))
    if kind in ("row", "either"):
        many = chance.randrange(0 if kind == "row" else 2, 4)
        return (kind, tuple(pattern_by(chance, names, depth - 1) for _ in range(many)))
    return (kind, pattern_by(chance, names, depth - 1))


def readable_by(chance, names, depth):
    """A pattern that a text can tell: rows and eithers have two parts at least, and no part is the empty row."""
    if depth == 0 or chance.random() < 0.25:
        return item_by(chance, names)
    kind = chance.choice(("row", "row", "either", "star", "plus", "maybe"))
    if kind in ("row", "either"):
        return (kind, tuple(readable_by(chance, names, depth - 1) for _ in range(chance.randrange(2, 4))))
    return (kind, readable_by(chance, names, depth - 1))


def lines_by(chance, names, pattern_maker, many):
    """Lines of a table: rules, and now and then a hide line."""
    lines = []
    for _ in range(many):
        if chance.random() < 0.2:
            lines.append(("hide", tuple(chance.choice(names) for _ in range(chance.randrange(1, 3)))))
        else:
            sides = [(chance.random() < 0.25, pattern_maker(chance, names, 2)) for _ in range(2)]
            lines.append(("rule", chance.choice(VERDICTS), *sides))
    return lines


def tables_by(chance, many, classes=(ABC, FULL)):
    """Tables of every sort."""
    for at in range(many):
        map_of_classes = classes[at % len(classes)]
        names = (*map_of_classes.names, "other")
        lines = lines_by(chance, names, pattern_by, chance.randrange(1, 5))
        yield Table(map_of_classes, lines, chance.choice(VERDICTS))


def regex_of(pattern, names):
    """The same pattern for Python's re, over one letter for each class."""
    kind = pattern[0]
    if kind == "any":
        return "."
    if kind in ("class", "not"):
        letters = "".join(chr(97 + at) for at, name in enumerate(names) if (name == pattern[1]) == (kind == "class"))
        return f"[{letters}]" if letters else "(?!)"
    if kind == "row":
        return "".join(f"(?:{regex_of(part, names)})" for part in pattern[1])
    if kind == "either":
        return "|".join(f"(?:{regex_of(part, names)})" for part in pattern[1])
    return f"(?:{regex_of(pattern[1], names)})" + {"star": "*", "plus": "+", "maybe": "?"}[kind]


def by_regex(pattern, names, row):
    return re.fullmatch(regex_of(pattern, names), "".join(chr(97 + number) for number in row)) is not None


def does_fit(rule, names, before, after):
    """Whether a rule fits between two rows, word for word as it is defined."""
    _, (before_is_bound, before_pattern), (after_is_bound, after_pattern), hidden = rule
    before = tuple(number for number in before if names[number] not in hidden)
    after = tuple(number for number in after if names[number] not in hidden)
    ends = [before] if before_is_bound else [before[at:] for at in range(len(before) + 1)]
    beginnings = [after] if after_is_bound else [after[:at] for at in range(len(after) + 1)]
    if not any(does_match(before_pattern, names, row) for row in ends):
        return False
    return any(does_match(after_pattern, names, row) for row in beginnings)


def rule_between(table, before, after):
    """The number of the first rule that fits, None without one."""
    for number, rule in enumerate(table.rules):
        if does_fit(rule, table.classes.names, before, after):
            return number
    return None
