"""Tables [7], verdicts [8] and light tables [9]."""

import random
import unittest

from making import ABC, EMPTY, FULL, rows_of, rule_between, tables_by

from cutsanywhere.classes import Classes
from cutsanywhere.errors import BadTable
from cutsanywhere.ranges import ALL
from cutsanywhere.tables import Table, are_light, is_light, rule_at, verdict_at

A, B, ANY = ("class", "a"), ("class", "b"), ("any",)
FREE = (False, EMPTY)


def rule(verdict="keep", before=FREE, after=FREE):
    return ("rule", verdict, before, after)


def many_items(many):
    return ("row", (ANY,) * many)


class TableTest(unittest.TestCase):
    def test_attributes(self):
        lines = [rule("must", (True, A), (False, ("star", B))), ("hide", ("b", "a")), rule()]
        for given in (lines, tuple(lines)):
            table = Table(ABC, given, "may")
            self.assertIs(table.classes, ABC)
            self.assertEqual(table.lines, tuple(lines))
            self.assertIs(type(table.lines), tuple)
            self.assertEqual(table.otherwise, "may")
            self.assertEqual(table.rules, (
                ("must", (True, A), (False, ("star", B)), ()), ("keep", FREE, FREE, ("a", "b"))))

    def test_hidden_names_in_the_order_of_the_classes(self):
        lines = [
            rule("keep"), ("hide", ("other",)), rule("may"), ("hide", ("b", "b")), ("hide", ("a", "other")), rule("must"),
            ("hide", ("a",)), rule("keep"), ("hide", ("a",)),
        ]
        table = Table(ABC, lines, "keep")
        self.assertEqual([told[3] for told in table.rules], [
            (), ("other",), ("a", "b", "other"), ("a", "b", "other")])
        self.assertEqual([told[0] for told in table.rules], ["keep", "may", "must", "keep"])

    def test_other_is_hidden_only_if_it_has_characters(self):
        table = Table(FULL, [("hide", ("other", "b")), rule(), ("hide", ("other",)), rule()], "may")
        self.assertEqual([told[3] for told in table.rules], [("b",), ("b",)])

    def test_no_lines(self):
        for lines in ([], ()):
            table = Table(ABC, lines, "must")
            self.assertEqual((table.lines, table.rules, table.otherwise), ((), (), "must"))

    def test_arguments_stay(self):
        lines = [("hide", ("a",)), rule()]
        table = Table(ABC, lines, "may")
        self.assertEqual(lines, [("hide", ("a",)), rule()])
        lines.append(None)
        self.assertEqual(len(table.lines), 2)
        wrong = [("hide", ("a",)), ["hide"]]
        self.assertRaises(BadTable, Table, ABC, wrong, "may")
        self.assertEqual(wrong, [("hide", ("a",)), ["hide"]])

    def test_every_verdict(self):
        for verdict in ("keep", "may", "must"):
            self.assertEqual(Table(ABC, [rule(verdict)], verdict).rules[0][0], verdict)

    def test_the_interface(self):
        for name in ("__init__", "automata", "rule_automata"):
            self.assertIn(name, vars(Table))


class WrongLinesTest(unittest.TestCase):
    def check(self, lines, number, otherwise="may", classes=ABC):
        for given in (list(lines), tuple(lines)):
            with self.assertRaises(BadTable) as caught:
                Table(classes, given, otherwise)
            self.assertEqual(caught.exception.name, number)

    def wrong_lines(self):
        sides = (
            None, (), (False,), (False, A, A), [False, A], (0, A), (1, A), (None, A), ("start", A), (A, False), (False, None),
            (False, ()), (False, "a"), (False, ("row", [A])), (False, ("either", (A,))), (False, ("class", "c")),
            (False, ("not", "c")), (False, ("row", (A, ("star", ("class", "vowel"))))), (False, ("class", "keep")),
            (False, many_items(61)), (True, ("star", many_items(61))), (False, ("star", ["class", "a"])),
        )
        lines = [
            None, 5, "hide", "rule", (), ("rule",), ("hide",), ("else", "may"), ("class", "a"), (None,), ([],), (("hide",),),
            ["hide", ("a",)], ("hide", ()), ("hide", "a"), ("hide", ["a"]), ("hide", ("c",)), ("hide", ("a", "c")),
            ("hide", ("a", None)), ("hide", (("a",),)), ("hide", ("a",), ("b",)), ("hide", "a", "b"), ("hide", None), ("hide", ("keep",)),
            ["rule", "keep", FREE, FREE], ("rule", "keep", FREE), ("rule", "keep", FREE, FREE, FREE), ("rule", FREE, FREE),
            ("rule", "Keep", FREE, FREE), ("rule", "", FREE, FREE), ("rule", None, FREE, FREE), ("rule", ["keep"], FREE, FREE),
            ("rule", "hide", FREE, FREE), ("rule", True, FREE, FREE), ("Rule", "keep", FREE, FREE),
        ]
        lines += [rule("keep", side, FREE) for side in sides] + [rule("keep", FREE, side) for side in sides]
        return lines

    def test_each_way_of_being_wrong_at_each_place(self):
        for wrong in self.wrong_lines():
            for at in range(3):
                lines = [("hide", ("a",)), rule()]
                lines.insert(at, wrong)
                self.check(lines, at)

    def test_the_first_wrong_line_is_told(self):
        for wrong in self.wrong_lines()[::5]:
            self.check([rule(), wrong, rule(), None, wrong], 1)
            self.check([rule(), None, wrong], 1)
            self.check([rule(), wrong, rule()], 1, "never")

    def test_otherwise(self):
        for otherwise in ("never", "", None, True, 5, ["may"], ("may",), "May", "hide"):
            self.check([], 0, otherwise)
            self.check([rule()], 1, otherwise)
            self.check([("hide", ("a",)), rule(), rule()], 3, otherwise)

    def test_sixty_items(self):
        for pattern in (many_items(60), ("row", (many_items(30), ("star", many_items(30)))), ("either", (many_items(59), A))):
            self.assertEqual(len(Table(ABC, [rule("keep", (False, pattern), (True, pattern))], "may").rules), 1)
        for pattern in (many_items(61), ("row", (many_items(30), ("star", many_items(31)))), ("either", (many_items(60), A))):
            self.check([rule("keep", (False, pattern), FREE)], 0)
            self.check([rule(), rule("keep", FREE, (True, pattern))], 1)

    def test_depth(self):
        pattern = A
        for _ in range(20):
            pattern = ("star", pattern)
        self.assertEqual(len(Table(ABC, [rule("keep", (False, pattern), FREE)], "may").rules), 1)
        self.check([rule("keep", (False, ("star", pattern)), FREE)], 0)

    def test_names_of_no_class(self):
        for name in ("c", "others", "aa", "letter"):
            self.check([("hide", ("a", name))], 0)
            self.check([rule(), rule("keep", (False, ("class", name)), FREE)], 1)
            self.check([rule(), rule("keep", FREE, (False, ("row", (A, ("not", name)))))], 1)

    def test_other_is_always_a_name(self):
        for classes in (ABC, FULL):
            lines = [("hide", ("other",)), rule("keep", (False, ("class", "other")), (False, ("not", "other")))]
            self.assertEqual(Table(classes, lines, "may").lines, tuple(lines))


class VerdictTest(unittest.TestCase):
    def told(self, table, before, after):
        """The number of the rule that decides and the verdict, for rows told as texts of figures."""
        rows = [tuple(int(figure) for figure in row) for row in (before, after)]
        return rule_at(table, *rows), verdict_at(table, *rows)

    def test_the_first_rule_that_fits(self):
        table = Table(ABC, [rule("keep", (False, A), FREE), rule("must", FREE, (False, A)), rule("may")], "keep")
        self.assertEqual(self.told(table, "0", "0"), (0, "keep"))
        self.assertEqual(self.told(table, "1", "0"), (1, "must"))
        self.assertEqual(self.told(table, "1", "1"), (2, "may"))
        self.assertEqual(self.told(table, "0", "1"), (0, "keep"))
        self.assertEqual(self.told(table, "01", "10"), (2, "may"))

    def test_no_rule_that_fits(self):
        table = Table(ABC, [rule("keep", (False, A), (False, A))], "must")
        self.assertEqual(self.told(table, "0", "0"), (0, "keep"))
        for before, after in (("", ""), ("0", ""), ("", "0"), ("1", "0"), ("0", "1"), ("01", "0")):
            self.assertEqual(self.told(table, before, after), (None, "must"))
        self.assertEqual(self.told(Table(ABC, [], "may"), "01", "2"), (None, "may"))

    def test_a_rule_with_the_verdict_of_otherwise_decides(self):
        self.assertEqual(self.told(Table(ABC, [rule("may")], "may"), "", ""), (0, "may"))

    def test_ends_and_beginnings(self):
        two = ("row", (A, B))
        table = Table(ABC, [rule("keep", (False, two), (False, two))], "may")
        for before in ("01", "2201", "0101"):
            for after in ("01", "012", "0101"):
                self.assertEqual(self.told(table, before, after), (0, "keep"))
        for before, after in (("01", "10"), ("10", "01"), ("1", "01"), ("01", "0"), ("012", "01"), ("01", "201"), ("", "01")):
            self.assertEqual(self.told(table, before, after), (None, "may"))

    def test_bound_sides(self):
        table = Table(ABC, [rule("keep", (True, A), (False, B)), rule("must", (False, A), (True, B))], "may")
        self.assertEqual(self.told(table, "0", "1"), (0, "keep"))
        self.assertEqual(self.told(table, "0", "12"), (0, "keep"))
        self.assertEqual(self.told(table, "20", "1"), (1, "must"))
        self.assertEqual(self.told(table, "20", "12"), (None, "may"))
        self.assertEqual(self.told(table, "", "1"), (None, "may"))

    def test_the_empty_pattern(self):
        table = Table(ABC, [rule("keep", (True, EMPTY), FREE), rule("must", FREE, (True, EMPTY))], "may")
        self.assertEqual(self.told(table, "", ""), (0, "keep"))
        self.assertEqual(self.told(table, "", "0"), (0, "keep"))
        self.assertEqual(self.told(table, "0", ""), (1, "must"))
        self.assertEqual(self.told(table, "0", "0"), (None, "may"))

    def test_the_empty_row_is_an_end_and_a_beginning_of_every_row(self):
        table = Table(ABC, [rule("keep", (False, ("star", A)), (False, ("maybe", B)))], "may")
        for before in ("", "0", "1", "12", "222"):
            for after in ("", "1", "0", "22"):
                self.assertEqual(self.told(table, before, after), (0, "keep"))

    def test_hidden_classes_on_both_sides(self):
        table = Table(ABC, [
            rule("must", (False, A), (False, A)), ("hide", ("other",)), rule("keep", (False, A), (False, A)),
            rule("must", (True, B), (True, B)), ("hide", ("b",)), rule("keep", (True, A), (True, EMPTY)),
        ], "may")
        self.assertEqual(self.told(table, "0", "0"), (0, "must"))
        self.assertEqual(self.told(table, "02", "0"), (1, "keep"))
        self.assertEqual(self.told(table, "0", "20"), (1, "keep"))
        self.assertEqual(self.told(table, "0222", "2201"), (1, "keep"))
        self.assertEqual(self.told(table, "212", "212"), (2, "must"))
        self.assertEqual(self.told(table, "2112", "212"), (None, "may"))
        self.assertEqual(self.told(table, "12021", "1212"), (3, "keep"))
        self.assertEqual(self.told(table, "0", "22"), (3, "keep"))
        self.assertEqual(self.told(table, "00", "22"), (None, "may"))
        self.assertEqual(self.told(table, "22", "22"), (None, "may"))

    def test_a_pattern_may_name_a_hidden_class(self):
        table = Table(ABC, [("hide", ("a",)), rule("keep", (False, A), FREE), rule("must", (True, ("star", ("not", "b"))), FREE)], "may")
        self.assertEqual(self.told(table, "0", ""), (1, "must"))
        self.assertEqual(self.told(table, "1", ""), (None, "may"))
        self.assertEqual(self.told(table, "2002", ""), (1, "must"))

    def test_other_without_characters(self):
        lines = [rule("keep", (False, ("class", "other")), FREE), rule("must", (False, ("not", "other")), FREE)]
        table = Table(FULL, lines, "may")
        self.assertEqual(self.told(table, "0", ""), (1, "must"))
        self.assertEqual(self.told(table, "1", ""), (1, "must"))
        self.assertEqual(self.told(table, "", "0"), (None, "may"))
        self.assertEqual(self.told(Table(ABC, lines, "may"), "2", ""), (0, "keep"))

    def test_against_the_definition(self):
        for table in tables_by(random.Random(8), 60):
            rows = list(rows_of(len(table.classes.names), 3))
            for before in rows:
                for after in rows[::3]:
                    number = rule_between(table, before, after)
                    self.assertEqual(rule_at(table, before, after), number)
                    verdict = table.otherwise if number is None else table.rules[number][0]
                    self.assertEqual(verdict_at(table, before, after), verdict)


class LightTest(unittest.TestCase):
    def both_sides(self, lines, is_so):
        """The same is asked of the lines, and of them with both sides changed round."""
        for told in (lines, [(*line[:2], line[3], line[2]) if line[0] == "rule" else line for line in lines]):
            self.assertIs(is_light(Table(ABC, told, "may")), is_so)

    def test_classes(self):
        for many, is_so in ((19, True), (20, False)):  # and other
            rows = [(f"c{at}", ((at, at),)) for at in range(many)]
            self.assertIs(is_light(Table(Classes(rows), [], "may")), is_so)

    def test_classes_that_have_all_characters(self):
        for many, is_so in ((20, True), (21, False)):
            rows = [(f"c{at}", ((at, at),)) for at in range(many - 1)]
            table = Table(Classes([*rows, ("rest", ALL)]), [], "may")
            self.assertEqual(len(table.classes.names), many)
            self.assertIs(is_light(table), is_so)

    def test_rules(self):
        self.both_sides([rule()] * 30, True)
        self.both_sides([rule()] * 31, False)
        self.both_sides([rule()] * 30 + [("hide", ("a",))] * 2, True)

    def test_hide_lines(self):
        self.both_sides([("hide", ("a", "b", "a", "other"))] * 2, True)
        self.both_sides([("hide", ("a",))] * 3, False)
        self.both_sides([("hide", ("a",)), rule(), ("hide", ("b",)), rule()], True)
        self.both_sides([("hide", ("a",)), rule(), ("hide", ("b",)), rule(), ("hide", ("a",))], False)

    def test_long_patterns(self):
        self.both_sides([rule("keep", (False, many_items(8)), FREE)], True)
        self.both_sides([rule("keep", (False, many_items(9)), FREE)], False)
        self.both_sides([rule("keep", (True, many_items(8)), FREE)], True)
        self.both_sides([rule("keep", (True, many_items(9)), FREE)], False)
        self.both_sides([rule("keep", (False, many_items(2)), FREE)] * 4, True)
        self.both_sides([rule("keep", (False, many_items(2)), FREE)] * 4 + [rule("keep", (True, ANY), FREE)], False)
        self.both_sides([rule("keep", (False, many_items(3)), FREE)] * 3, False)

    def test_each_side_counts_for_itself(self):
        self.both_sides([rule("keep", (False, many_items(8)), (True, many_items(8)))], True)
        self.both_sides([rule("keep", (False, many_items(8)), (True, many_items(9)))], False)
        self.both_sides([rule("keep", (False, many_items(5)), FREE), rule("keep", FREE, (False, many_items(5)))], True)

    def test_bound_patterns_of_one_item(self):
        self.both_sides([rule("keep", (True, ("star", A)), FREE)] * 8, True)
        self.both_sides([rule("keep", (True, ("star", A)), FREE)] * 9, False)
        self.both_sides([rule("keep", (True, A), FREE)] * 9, False)

    def test_patterns_that_are_not_long(self):
        self.both_sides([rule("keep", (False, ("star", A)), (False, ("row", (A, EMPTY))))] * 30, True)
        self.both_sides([rule("keep", (True, EMPTY), (True, ("star", EMPTY)))] * 30, True)
        self.both_sides([rule("keep", (False, many_items(8)), FREE)] + [rule("keep", (False, A), FREE)] * 29, True)

    def test_pairs(self):
        light, heavy = Table(ABC, [rule()], "may"), Table(ABC, [("hide", ("a",))] * 3, "may")
        self.assertIs(are_light(light, light), True)
        self.assertIs(are_light(light, heavy), False)
        self.assertIs(are_light(heavy, light), False)
        self.assertIs(are_light(heavy, heavy), False)

    def test_pairs_rules(self):
        for one, other, is_so in ((15, 15, True), (30, 0, True), (0, 30, True), (16, 15, False), (15, 16, False), (30, 1, False)):
            self.assertIs(are_light(Table(ABC, [rule()] * one, "may"), Table(ABC, [rule()] * other, "may")), is_so)

    def test_pairs_hide_lines_and_items(self):
        lines = [("hide", ("a",))] * 2 + [rule("keep", (True, many_items(8)), (False, many_items(8)))]
        self.assertIs(are_light(Table(ABC, lines, "may"), Table(FULL, lines, "keep")), True)
        for more in ([("hide", ("a",))], [rule("keep", (True, A), FREE)], [rule("keep", FREE, (True, A))]):
            self.assertIs(are_light(Table(ABC, lines, "may"), Table(ABC, lines + more, "may")), False)

    def crossing(self, many):
        """Two tables with so many pairs of common classes: each class of the one meets several of the other."""
        one = [(f"c{at}", ((100 * at + 100, 100 * at + 199),)) for at in range(9)]
        other = [("d0", tuple((100 * at + 100, 100 * at + 119) for at in range(9))),
                 ("d1", tuple((100 * at + 120, 100 * at + 139) for at in range(9))),
                 ("d2", tuple((100 * at + 140, 100 * at + 159) for at in range(9)))]
        # The nine classes meet d0, d1, d2 and other: 36 pairs; other and other: 37.
        more = many - 37
        other.append(("d3", tuple((100 * at + 160, 100 * at + 179) for at in range(more))))
        return Table(Classes(one), [], "may"), Table(Classes(other), [], "may")

    def test_forty_pairs(self):
        for many, is_so in ((39, True), (40, True), (41, False), (42, False)):
            one, other = self.crossing(many)
            self.assertEqual(len({(one.classes[chr(p)], other.classes[chr(p)]) for p in range(2000)}), many)
            self.assertIs(are_light(one, other), is_so)
            self.assertIs(are_light(other, one), is_so)


if __name__ == "__main__":
    unittest.main()
