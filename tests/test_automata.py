"""Automata [12]."""

import random
import unittest

from making import ABC, EMPTY, FULL, lines_by, pattern_by, rows_of, rule_between, tables_by

from cutsanywhere.classes import Classes
from cutsanywhere.patterns import reversed_pattern
from cutsanywhere.tables import Table, rule_at, verdict_at

A, B, ANY = ("class", "a"), ("class", "b"), ("any",)
FREE = (False, EMPTY)


def tables():
    """Tables of several sorts, hide lines and bound sides among them."""
    yield Table(ABC, [], "may")
    yield Table(FULL, [], "keep")
    yield Table(Classes([]), [("rule", "keep", (True, EMPTY), FREE)], "may")
    yield Table(ABC, [("rule", "keep", (False, A), (False, A))], "may")
    yield Table(ABC, [("rule", "keep", (True, ("star", ("row", (A, A)))), (False, A))], "may")
    yield Table(ABC, [("rule", "must", FREE, (True, ("row", (("star", ("any",)), A, B))))], "keep")
    yield Table(ABC, [("hide", ("other",)), ("rule", "keep", (False, A), (False, A))], "may")
    yield Table(ABC, [
        ("rule", "must", (False, A), (False, A)), ("hide", ("other",)), ("rule", "keep", (False, A), (False, B)),
        ("hide", ("b",)), ("rule", "may", (True, ("plus", A)), (True, ("plus", A))),
    ], "must")
    yield Table(ABC, [("rule", "keep", (False, ("row", (A, ANY, ANY))), FREE), ("rule", "must", FREE, (False, B))], "may")
    yield from tables_by(random.Random(12), 40)


def both(table):
    """The two sorts of automata, each with the function that they agree with."""
    return ((table.automata(), verdict_at), (table.rule_automata(), rule_at))


def is_alike(ways, told, one, other):
    """Whether no row leads two states to states that are told unlike, asked pair by pair."""
    seen, left = {(one, other)}, [(one, other)]
    while left:
        x, y = left.pop()
        if told[x] != told[y]:
            return False
        for pair in zip(ways[x], ways[y]):
            if pair not in seen:
                seen.add(pair)
                left.append(pair)
    return True


class FormTest(unittest.TestCase):
    def test_tuples(self):
        for table in tables():
            for automata, _ in both(table):
                for told, size in ((automata.before, len(table.classes.names)), (automata.after, len(table.classes.names)),
                                   (automata.verdicts, len(automata.after))):
                    self.assertIs(type(told), tuple)
                    for row in told:
                        self.assertIs(type(row), tuple)
                        self.assertEqual(len(row), size)
                self.assertEqual(len(automata.verdicts), len(automata.before))

    def test_one_state(self):
        automata = Table(ABC, [], "may").automata()
        self.assertEqual((automata.before, automata.after, automata.verdicts), (((0, 0, 0),), ((0, 0, 0),), (("may",),)))
        automata = Table(ABC, [], "may").rule_automata()
        self.assertEqual(automata.verdicts, ((None,),))

    def test_by_hand(self):
        table = Table(ABC, [("rule", "keep", (False, ("row", (A, B))), (True, A))], "may")
        automata = table.automata()
        self.assertEqual(automata.before, ((1, 0, 0), (1, 2, 0), (1, 0, 0)))
        self.assertEqual(automata.after, ((1, 2, 2), (2, 2, 2), (2, 2, 2)))
        self.assertEqual(automata.verdicts, (("may",) * 3, ("may",) * 3, ("may", "keep", "may")))
        self.assertEqual(table.rule_automata().verdicts, ((None,) * 3, (None,) * 3, (None, 0, None)))

    def test_the_steps_ahead_of_a_row_that_stands_after(self):
        automata = Table(ABC, [("rule", "keep", FREE, (False, ("row", (A, B))))], "may").automata()
        self.assertEqual(automata.before, ((0, 0, 0),))
        self.assertEqual(automata.after, ((0, 1, 0), (2, 1, 0), (0, 1, 0)))
        self.assertEqual(automata.verdicts, (("may", "may", "keep"),))
        self.assertEqual(automata.state_after((0, 1)), 2)
        self.assertEqual(automata.state_after((1, 0)), 1)

    def test_the_interface(self):
        for automata, _ in both(Table(ABC, [], "may")):
            for name in ("state_before", "state_after", "verdict"):
                self.assertIn(name, vars(type(automata)))

    def test_equal_answers(self):
        for table in tables():
            again = Table(table.classes, table.lines, table.otherwise)
            for one, other in ((table.automata(), again.automata()), (table.automata(), table.automata()),
                               (table.rule_automata(), again.rule_automata())):
                self.assertEqual((one.before, one.after, one.verdicts), (other.before, other.after, other.verdicts))


class StatesTest(unittest.TestCase):
    def test_state_0_is_the_empty_rows(self):
        for table in tables():
            for automata, _ in both(table):
                self.assertEqual(automata.state_before(()), 0)
                self.assertEqual(automata.state_after(()), 0)

    def test_states_are_numbered_as_they_are_reached(self):
        for table in tables():
            for automata, _ in both(table):
                for ways in (automata.before, automata.after):
                    reached = [0]
                    for state in range(len(ways)):
                        self.assertLess(state, len(reached))
                        for to in ways[state]:
                            if to not in reached:
                                reached.append(to)
                    self.assertEqual(reached, list(range(len(ways))))

    def test_no_two_states_are_alike(self):
        for table in tables():
            for automata, _ in both(table):
                columns = list(zip(*automata.verdicts))
                for ways, told in ((automata.before, automata.verdicts), (automata.after, columns)):
                    for one in range(len(ways)):
                        for other in range(one):
                            self.assertFalse(is_alike(ways, told, one, other))

    def test_steps_are_those_of_rows(self):
        for table in tables():
            many = len(table.classes.names)
            for automata, _ in both(table):
                for row in rows_of(many, 3):
                    x, y = automata.state_before(row), automata.state_after(row)
                    for number in range(many):
                        self.assertEqual(automata.before[x][number], automata.state_before(row + (number,)))
                        self.assertEqual(automata.after[y][number], automata.state_after((number,) + row))


class AgreeTest(unittest.TestCase):
    def test_with_verdict_at_and_rule_at(self):
        for table in tables():
            rows = list(rows_of(len(table.classes.names), 3))
            for automata, asked in both(table):
                for before in rows:
                    for after in rows:
                        told = asked(table, before, after)
                        self.assertEqual(automata.verdict(before, after), told)
                        x, y = automata.state_before(before), automata.state_after(after)
                        self.assertEqual(automata.verdicts[x][y], told)

    def test_with_the_definition_on_longer_rows(self):
        chance = random.Random(13)
        for table in tables():
            many = len(table.classes.names)
            for _ in range(30):
                before, after = [tuple(chance.randrange(many) for _ in range(chance.randrange(9))) for _ in range(2)]
                number = rule_between(table, before, after)
                self.assertEqual(table.rule_automata().verdict(before, after), number)
                verdict = table.otherwise if number is None else table.rules[number][0]
                self.assertEqual(table.automata().verdict(before, after), verdict)

    def test_many_classes(self):
        classes = Classes([(f"c{at}", ((at, at),)) for at in range(19)])
        lines = [("rule", "keep", (False, ("class", f"c{at}")), (False, ("class", f"c{at + 1}"))) for at in range(18)]
        table = Table(classes, [*lines, ("hide", ("c3", "c4")), ("rule", "must", (False, ("class", "c5")), FREE)], "may")
        for before in rows_of(20, 1):
            for after in rows_of(20, 1):
                self.assertEqual(table.automata().verdict(before, after), verdict_at(table, before, after))
                self.assertEqual(table.rule_automata().verdict(before, after), rule_at(table, before, after))


def told_otherwise(table, chance):
    """Tables with the same verdicts between all rows, told in other ways."""
    lines = list(table.lines)
    yield Table(table.classes, [*lines, ("hide", ("other",))], table.otherwise)
    whole = [*lines, ("rule", table.otherwise, FREE, FREE)]
    yield Table(table.classes, whole, table.otherwise)
    for verdict in ("keep", "may", "must"):
        # Behind a rule that always fits, nothing counts.
        yield Table(table.classes, [*whole, *lines_by(chance, table.classes.names, pattern_by, 2)], verdict)
    longer = []
    for line in lines:
        if line[0] == "hide":
            longer.append(line)
        else:
            _, verdict, (before_is_bound, before), (after_is_bound, after) = line
            # Each rule twice, with brackets, and with all that may stand ahead of a match, or behind it, told.
            start = before if before_is_bound else ("row", (("star", ANY), before))
            end = after if after_is_bound else ("either", (("row", (after, ("star", ANY))), after))
            longer.append(("rule", verdict, (True, start), (True, ("row", (end,)))))
            longer.append(("rule", verdict, (before_is_bound, reversed_pattern(reversed_pattern(before))), line[3]))
    yield Table(table.classes, longer, table.otherwise)


class SameTest(unittest.TestCase):
    def test_tables_with_the_same_verdicts_have_the_same_automata(self):
        chance = random.Random(14)
        for table in tables():
            one = table.automata()
            for late in told_otherwise(table, chance):
                other = late.automata()
                self.assertEqual((one.before, one.after, one.verdicts), (other.before, other.after, other.verdicts))

    def test_rule_automata_tell_rules_of_the_same_verdict_apart(self):
        table = Table(ABC, [("rule", "keep", (False, A), FREE), ("rule", "keep", FREE, FREE)], "keep")
        self.assertEqual(table.automata().verdicts, (("keep",),))
        self.assertEqual(table.rule_automata().before, ((1, 0, 0), (1, 0, 0)))
        self.assertEqual(table.rule_automata().verdicts, ((1,), (0,)))

    def test_other_verdicts_other_automata(self):
        one = Table(ABC, [("rule", "keep", (False, A), (False, A))], "may").automata()
        other = Table(ABC, [("rule", "keep", (False, A), (False, B))], "may").automata()
        self.assertNotEqual((one.before, one.after, one.verdicts), (other.before, other.after, other.verdicts))


if __name__ == "__main__":
    unittest.main()
