"""Which rules decide, where, and which can be left out."""

from cutsanywhere.automata import first_in, reached
from cutsanywhere.checks import is_between
from cutsanywhere.errors import BadThing
from cutsanywhere.nets import numbers_in
from cutsanywhere.tables import Table
from cutsanywhere.walks import rows_to, shortest_place


def _fits_of(crowd):
    """The sets of rules of which the pattern on one side fits, each with a row as short as any; the shorter first.

    Rows stand in the order in which they are read.
    """
    fits, steps = reached(crowd)
    found = {}
    for fit, row in zip(fits, rows_to(steps)):
        found.setdefault(fit, row)
    return found


def _is_number(table, number):
    """Whether it is the number of a rule."""
    return is_between(number, 0, len(table.rules) - 1)


def rule_place(table, number):
    """A shortest place where the rule of this number decides, if there is one."""
    if not _is_number(table, number):
        raise BadThing(number)
    befores = _fits_of(table.befores)
    afters = _fits_of(table.afters)
    place = shortest_place(befores, afters, lambda before, after: first_in(before & after) == number)
    if place is None:
        return ("never",)
    return ("at", befores[place[0]], afters[place[1]][::-1])


def fitting(table):
    """The tuples of the numbers of rules whose patterns fit, for all rows before, and for all rows after."""
    return (_numbers_of(table.befores), _numbers_of(table.afters))


def _numbers_of(crowd):
    told = []
    for fit in _fits_of(crowd):
        numbers = numbers_in(fit)
        told.append(tuple(numbers[::-1]))
    return tuple(sorted(told))


def without_rule(table, number):
    """The table without one rule, and without hide lines behind which no rule stands."""
    without = [number] if _is_number(table, number) else []
    return _with_rules(table, [told for told in range(len(table.rules)) if told not in without])


def _with_rules(table, numbers):
    """The table with the rules of these numbers alone, and without hide lines behind which none of them stands."""
    lines = []
    many = 0
    for line in table.lines:
        if line[0] == "hide":
            lines.append(line)
        else:
            if many in numbers:
                lines.append(line)
            many += 1
    while lines and lines[-1][0] == "hide":
        lines.pop()
    return Table(table.classes, lines, table.otherwise)


def slim(table):
    """The table without the rules that change no verdict, and for each other rule a place that shows that it does."""
    befores = _fits_of(table.befores)
    afters = _fits_of(table.afters)
    left = (1 << len(table.rules)) - 1
    places = []
    for number in reversed(range(len(table.rules))):
        place = _place_of_need(table, number, left, befores, afters)
        if place is None:
            left = left ^ 1 << number
        else:
            # Rules ahead that are left out later do not decide here: so the place stays one.
            places.append((befores[place[0]], afters[place[1]][::-1]))
    return (_with_rules(table, numbers_in(left)), tuple(places[::-1]))


def _place_of_need(table, number, left, befores, afters):
    """Where the verdict is another one without this rule, of the rules that are left; None if nowhere."""

    def is_needed(before, after):
        fits = before & after & left
        return first_in(fits) == number and _verdict_of(table, fits ^ 1 << number) != table.rules[number][0]

    return shortest_place(befores, afters, is_needed)


def _verdict_of(table, fits):
    """The verdict where just these rules fit."""
    number = first_in(fits)
    return table.otherwise if number < 0 else table.rules[number][0]
