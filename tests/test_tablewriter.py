"""Tables and patterns written as texts [11]."""

import random
import unittest

from making import ABC, EMPTY, FULL, lines_by, pattern_by, readable_by

from cutsanywhere.classes import Classes
from cutsanywhere.tablereader import read_table
from cutsanywhere.tables import Table
from cutsanywhere.tablewriter import pattern_text, table_text

A, B, ANY = ("class", "a"), ("class", "b"), ("any",)


class TableTextTest(unittest.TestCase):
    def check(self, table):
        text = table_text(table)
        self.assertIs(type(text), str)
        again = read_table(text)
        self.assertEqual(again.classes.rows, table.classes.rows)
        self.assertEqual(again.lines, table.lines)
        self.assertEqual(again.otherwise, table.otherwise)

    def test_small_tables(self):
        free, bound = (False, EMPTY), (True, EMPTY)
        self.check(Table(Classes([]), [], "may"))
        for verdict in ("keep", "may", "must"):
            self.check(Table(ABC, [("rule", verdict, free, free)], verdict))
            for before in (free, bound, (False, A), (True, A)):
                for after in (free, bound, (False, B), (True, B)):
                    self.check(Table(ABC, [("rule", verdict, before, after)], "keep"))

    def test_hide_lines(self):
        rule = ("rule", "keep", (False, A), (True, ("star", ("not", "other"))))
        self.check(Table(ABC, [("hide", ("a",)), rule, ("hide", ("other", "b", "other")), rule, ("hide", ("b",))], "may"))
        self.check(Table(FULL, [("hide", ("other",)), rule], "may"))

    def test_rows(self):
        rows = (
            (("a", ((0, 0),)),),
            (("a", ((10, 10), (32, 32), (39, 39))), ("b_9", ((35, 36), (92, 92)))),
            (("low", ((0, 99),)), ("mid", ((50, 55295),)), ("high", ((57344, 1114111),))),
            (("all", ((0, 55295), (57344, 1114111))),),
            (("x" * 30, ((1114111, 1114111),)), ("y", ((55295, 55295), (57344, 57344), (65536, 131072)))),
        )
        for told in rows:
            self.check(Table(Classes(told), [], "must"))

    def test_tables_by_chance(self):
        chance = random.Random(20)
        for at in range(300):
            classes = (ABC, FULL)[at % 2]
            lines = lines_by(chance, ("a", "b", "other"), readable_by, chance.randrange(6))
            self.check(Table(classes, lines, chance.choice(("keep", "may", "must"))))

    def test_tables_that_were_read(self):
        for text in (
            "else may",
            "class a ' ' '#' '''\n\nkeep((a)*)+|not a/a a?#x\nhide a other\nmust start|end\nelse keep",
            "class a U+D000-U+F000\nclass b U+0000-U+10FFFF\nmay (((((a b) b) a) b) a)* | end\nelse may",
        ):
            self.check(read_table(text))

    def test_sixty_items_and_five_brackets(self):
        deep = ("row", (A, B))
        for _ in range(5):
            deep = ("row", (deep, B))
            self.check(Table(ABC, [("rule", "keep", (False, deep), (True, deep))], "may"))
        self.assertEqual(pattern_text(deep).count("("), 5)
        many = ("either", tuple(("row", (A, ("star", B))) for _ in range(30)))
        self.check(Table(ABC, [("rule", "keep", (False, many), (True, many))], "may"))


class PatternTextTest(unittest.TestCase):
    def check(self, pattern):
        text = pattern_text(pattern)
        self.assertIs(type(text), str)
        head = "class a 'a'\nclass b 'b'\n"
        (line,) = read_table(f"{head}keep {text} | {text}\nelse may").lines
        self.assertEqual(line[2:], ((False, pattern), (False, pattern)))

    def test_each_kind(self):
        for pattern in (EMPTY, A, ANY, ("class", "other"), ("not", "a"), ("not", "other")):
            self.check(pattern)
            if pattern != EMPTY:
                for kind in ("star", "plus", "maybe"):
                    self.check((kind, pattern))
                    self.check((kind, (kind, pattern)))
                self.check(("row", (pattern, pattern)))
                self.check(("either", (pattern, pattern, B)))

    def test_parts_within_parts(self):
        row, either = ("row", (A, B)), ("either", (A, ("not", "b")))
        for inner in (row, either, ("star", row), ("maybe", either), ("plus", A)):
            for pattern in (("row", (inner, A)), ("row", (A, inner, inner)), ("either", (inner, A)), ("either", (A, inner)),
                            ("star", inner), ("plus", ("row", (inner, inner)))):
                self.check(pattern)

    def test_patterns_by_chance(self):
        chance = random.Random(21)
        for _ in range(500):
            self.check(readable_by(chance, ("a", "b", "other"), 3))

    def test_a_pattern_that_no_text_tells_has_a_text_all_the_same(self):
        chance = random.Random(22)
        for _ in range(200):
            self.assertIs(type(pattern_text(pattern_by(chance, ("a", "b"), 5))), str)


if __name__ == "__main__":
    unittest.main()
