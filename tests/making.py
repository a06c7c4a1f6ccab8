"""Patterns and tables by chance (of a fixed seed), rows, and the definitions told a second time, for the tests."""

import itertools
import random
import re

from cutsanywhere.classes import Classes
from cutsanywhere.patterns import does_match
from cutsanywhere.tablereader import read_table
from cutsanywhere.tables import Table, is_light

VERDICTS = ("keep", "may", "must")
ABC = Classes([("a", ((97, 97),)), ("b", ((98, 98),))])  # and other
FULL = Classes([("a", ((0, 97),)), ("b", ((98, 55295), (57344, 1114111)))])  # other has no character
EMPTY = ("row", ())


def rows_of(many, length):
    """All rows of classes 0 to many - 1 of at most so many characters."""
    for size in range(length + 1):
        yield from itertools.product(range(many), repeat=size)


def item_by(chance, names):
    kind = chance.choice(("class", "class", "any", "not"))
    return ("any",) if kind == "any" else (kind, chance.choice(names))


def pattern_by(chance, names, depth):
    """A pattern of any form: rows and eithers of any number of parts, stars within stars."""
    if depth == 0 or chance.random() < 0.25:
        return EMPTY if chance.random() < 0.1 else item_by(chance, names)
    kind = chance.choice(("row", "row", "either", "star", "plus", "maybe"))
    if kind in ("row", "either"):
        many = chance.randrange(0 if kind == "row" else 2, 4)
        return (kind, tuple(pattern_by(chance, names, depth - 1) for _ in range(many)))
    return (kind, pattern_by(chance, names, depth - 1))


def readable_by(chance, names, depth):
    """A pattern that a text can tell: rows and eithers have two parts at least, and no part is the empty row."""
    if depth == 0 or chance.random() < 0.25:
        return item_by(chance, names)
    kind = chance.choice(("row", "row", "either", "star", "plus", "maybe"))
    if kind in ("row", "either"):
        return (kind, tuple(readable_by(chance, names, depth - 1) for _ in range(chance.randrange(2, 4))))
    return (kind, readable_by(chance, names, depth - 1))


def lines_by(chance, names, pattern_maker, many):
    """Lines of a table: rules, and now and then a hide line."""
    lines = []
    for _ in range(many):
        if chance.random() < 0.2:
            lines.append(("hide", tuple(chance.choice(names) for _ in range(chance.randrange(1, 3)))))
        else:
            sides = [(chance.random() < 0.25, pattern_maker(chance, names, 2)) for _ in range(2)]
            lines.append(("rule", chance.choice(VERDICTS), *sides))
    return lines


def tables_by(chance, many, classes=(ABC, FULL)):
    """Tables of every sort."""
    for at in range(many):
        map_of_classes = classes[at % len(classes)]
        names = (*map_of_classes.names, "other")
        lines = lines_by(chance, names, pattern_by, chance.randrange(1, 5))
        yield Table(map_of_classes, lines, chance.choice(VERDICTS))


# Tables within and beyond on each side, with hide lines, bound sides, and patterns that go on for ever.
LIGHT_TEXTS = (
    "else may",
    "else keep",
    "class a 'a'\nkeep a | a\nelse may",
    "class a 'a'\nkeep a any | a\nelse may",
    "class a 'a'\nkeep | a any any end\nelse must",
    "class dot '.'\nkeep start (dot dot)* dot | dot\nelse may",
    "class dot '.'\nkeep dot | dot (dot dot)* end\nelse may",
    "class dot '.'\nkeep start (dot dot)* dot | dot (dot dot)* end\nelse must",
    "class letter 'a'-'z'\nclass quote U+0027\nkeep letter | letter\nkeep letter quote | letter\n"
    "keep letter | quote letter\nelse may",
    "class a 'a'\nclass mark U+0300-U+0344\nkeep any | mark\nhide mark\nmust a | a\nmay start a+ | a+ end\nelse keep",
    "class a 'a'\nclass b 'b' U+1F600\nmust a | a\nhide other\nkeep a | b\nhide b\nmay start a+ | a+ end\nelse must",
    "class a U+0000-U+D7FF\nclass b U+E000-U+10FFFF\nkeep a | (b a)*\nmay start b | not other\nelse keep",
    "class a 'a'\nclass b 'b'\nmay any not other other+ | not other\nelse must",
    "class a 'a'\nmay any | any\nkeep start | a\nmust a | end\nelse keep",
    "class a 'a'\nclass b 'b'\nkeep start (not a)* | b\nmust a (b / other)* a | (a / b) any* a\nelse may",
    "class flag U+1F1E6-U+1F1FF\nclass mark U+0300-U+0344\nkeep any | mark\nhide mark\n"
    "keep start (not flag / flag flag)* flag | flag\nelse may",
)


def light_tables(seed, many):
    """Light tables by hand, and so many by chance."""
    yield from [read_table(text) for text in LIGHT_TEXTS]
    yield from itertools.islice((table for table in tables_by(random.Random(seed), 9 * many) if is_light(table)), many)


def letters_of(table):
    """Characters of every class of a table: the first and the last one of each."""
    return "".join(chr(stretches[0][0]) + chr(stretches[-1][1]) for stretches in table.classes.ranges)


def texts_of(table, length):
    """All texts of one character of each class, of at most so many characters."""
    letters = [chr(stretches[-1][1]) for stretches in table.classes.ranges]
    for size in range(length + 1):
        for told in itertools.product(letters, repeat=size):
            yield "".join(told)


def text_by(chance, table, size):
    return "".join(chance.choice(letters_of(table)) for _ in range(size))


def rows_to_states(ways, many):
    """For each state the first row, of those that are read from the left, that leads to it."""
    rows, left = {0: ()}, [0]
    for state in left:
        for number in range(many):
            to = ways[state][number]
            if to not in rows:
                rows[to] = rows[state] + (number,)
                left.append(to)
    return [rows[state] for state in range(len(ways))]


def both_rows(table):
    """Rows for all states before, and rows for all states after, as they stand in texts."""
    automata, many = table.automata(), len(table.classes.names)
    befores = rows_to_states(automata.before, many)
    return befores, [row[::-1] for row in rows_to_states(automata.after, many)]


def regex_of(pattern, names):
    """The same pattern for Python's re, over one letter for each class."""
    kind = pattern[0]
    if kind == "any":
        return "."
    if kind in ("class", "not"):
        letters = "".join(chr(97 + at) for at, name in enumerate(names) if (name == pattern[1]) == (kind == "class"))
        return f"[{letters}]" if letters else "(?!)"
    if kind == "row":
        return "".join(f"(?:{regex_of(part, names)})" for part in pattern[1])
    if kind == "either":
        return "|".join(f"(?:{regex_of(part, names)})" for part in pattern[1])
    return f"(?:{regex_of(pattern[1], names)})" + {"star": "*", "plus": "+", "maybe": "?"}[kind]


def by_regex(pattern, names, row):
    return re.fullmatch(regex_of(pattern, names), "".join(chr(97 + number) for number in row)) is not None


def does_fit(rule, names, before, after):
    """Whether a rule fits between two rows, word for word as it is defined."""
    _, (before_is_bound, before_pattern), (after_is_bound, after_pattern), hidden = rule
    before = tuple(number for number in before if names[number] not in hidden)
    after = tuple(number for number in after if names[number] not in hidden)
    ends = [before] if before_is_bound else [before[at:] for at in range(len(before) + 1)]
    beginnings = [after] if after_is_bound else [after[:at] for at in range(len(after) + 1)]
    if not any(does_match(before_pattern, names, row) for row in ends):
        return False
    return any(does_match(after_pattern, names, row) for row in beginnings)


def rule_between(table, before, after):
    """The number of the first rule that fits, None without one."""
    for number, rule in enumerate(table.rules):
        if does_fit(rule, table.classes.names, before, after):
            return number
    return None
