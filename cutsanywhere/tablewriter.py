"""Writes tables as texts."""

from cutsanywhere.signs import point_text

MARKS = {"star": "*", "plus": "+", "maybe": "?"}


def table_text(table):
    """A text that is read as this table, if it can be read at all."""
    told = [_row_text(name, ranges) for name, ranges in table.classes.rows]
    for line in table.lines:
        told.append(_hide_text(line) if line[0] == "hide" else _rule_text(line))
    told.append(f"else {table.otherwise}")
    return "\n".join(told)


def _row_text(name, ranges):
    stretches = [_stretch_text(first, last) for first, last in ranges]
    return " ".join(["class", name, *stretches])


def _stretch_text(first, last):
    if first == last:
        return point_text(first)
    return f"{point_text(first)}-{point_text(last)}"


def _hide_text(line):
    return " ".join(["hide", *line[1]])


def _rule_text(line):
    _, verdict, (before_is_bound, before), (after_is_bound, after) = line
    told = [
        verdict,
        "start" if before_is_bound else "",
        pattern_text(before),
        "|",
        pattern_text(after),
        "end" if after_is_bound else "",
    ]
    return " ".join([word for word in told if word])


def pattern_text(pattern):
    """A text of a pattern, with brackets where they are needed."""
    kind = pattern[0]
    if kind == "any":
        return "any"
    if kind == "class":
        return pattern[1]
    if kind == "not":
        return f"not {pattern[1]}"
    if kind == "row":
        return " ".join([_part_text(part, ("row", "either")) for part in pattern[1]])
    if kind == "either":
        return " / ".join([_part_text(part, ("either",)) for part in pattern[1]])
    return _part_text(pattern[1], ("row", "either", "star", "plus", "maybe")) + MARKS[kind]


def _part_text(part, bracketed):
    """A text of a part, in brackets if it is of one of these kinds."""
    text = pattern_text(part)
    return f"({text})" if part[0] in bracketed else text
