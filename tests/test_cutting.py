"""Cutting [13]."""

import random
import unittest

from making import LIGHT_TEXTS, letters_of, light_tables, rows_of, text_by, texts_of

from cutsanywhere.cutting import Cutter, cuts_in, cuts_of, plain_verdicts, row_verdicts, units_of, verdicts_of
from cutsanywhere.tablereader import read_table
from cutsanywhere.tables import rule_at, verdict_at


def by_definition(table, row):
    return tuple(verdict_at(table, row[:at], row[at:]) for at in range(len(row) + 1))


def texts(table, seed):
    chance = random.Random(seed)
    yield from texts_of(table, 3)
    for size in (4, 5, 7, 12, 30):
        yield text_by(chance, table, size)


class VerdictsTest(unittest.TestCase):
    def test_all_ways_agree_with_the_definition(self):
        for table in light_tables(131, 30):
            cutter = Cutter(table)
            for text in texts(table, 132):
                row = table.classes.row_of(text)
                told = by_definition(table, row)
                self.assertEqual(verdicts_of(table, text), told)
                self.assertEqual(plain_verdicts(table, text), told)
                self.assertEqual(row_verdicts(table.automata(), row), told)
                self.assertEqual(cutter(text), told)
                for answer in (verdicts_of(table, text), plain_verdicts(table, text), cutter(text)):
                    self.assertIs(type(answer), tuple)

    def test_the_empty_text_has_one_position(self):
        for table in light_tables(133, 10):
            told = (verdict_at(table, (), ()),)
            self.assertEqual(verdicts_of(table, ""), told)
            self.assertEqual(plain_verdicts(table, ""), told)
            self.assertEqual(row_verdicts(table.automata(), ()), told)
            self.assertEqual(Cutter(table)(""), told)

    def test_rules_are_asked_at_both_ends(self):
        table = read_table("class a 'a'\nkeep start | a\nmust a | end\nelse may")
        self.assertEqual(verdicts_of(table, "aa"), ("keep", "may", "must"))
        self.assertEqual(plain_verdicts(table, "aa"), ("keep", "may", "must"))
        self.assertEqual(verdicts_of(table, ""), ("may",))

    def test_characters_beyond_ascii(self):
        table = read_table("class e U+00E9\nclass face U+1F600-U+1F64F\nclass a 'a'\nkeep e | face\nmust face | a\nelse may")
        text = "\u00e9\U0001f600a\U0010ffff\u00e9\U0001f64f"
        self.assertEqual(verdicts_of(table, text), ("may", "keep", "must", "may", "may", "keep", "may"))
        self.assertEqual(plain_verdicts(table, text), verdicts_of(table, text))

    def test_what_stands_far_behind_counts(self):
        table = read_table("class dot '.'\nkeep dot | dot (dot dot)* end\nelse may")
        self.assertEqual(verdicts_of(table, "....."), ("may", "may", "keep", "may", "keep", "may"))

    def test_row_verdicts_of_rule_automata(self):
        for table in light_tables(134, 10):
            for row in rows_of(len(table.classes.names), 3):
                told = tuple(rule_at(table, row[:at], row[at:]) for at in range(len(row) + 1))
                self.assertEqual(row_verdicts(table.rule_automata(), row), told)

    def test_a_cutter_is_called_again_and_again(self):
        for table in light_tables(135, 5):
            cutter, other = Cutter(table), Cutter(table)
            asked = list(texts(table, 136))
            for text in asked + asked[::-1]:
                self.assertEqual(cutter(text), verdicts_of(table, text))
            self.assertEqual(other(asked[-1]), cutter(asked[-1]))

    def test_cutters_of_two_tables_do_not_meet(self):
        one, other = read_table("class a 'a'\nkeep a | a\nelse may"), read_table("class a 'b'\nmust a | a\nelse keep")
        cutters = Cutter(one), Cutter(other)
        self.assertEqual(cutters[0]("aa"), ("may", "keep", "may"))
        self.assertEqual(cutters[1]("aa"), ("keep",) * 3)
        self.assertEqual(cutters[1]("bb"), ("keep", "must", "keep"))
        self.assertEqual(cutters[0]("bb"), ("may",) * 3)

    def test_the_interface(self):
        self.assertIn("__call__", vars(Cutter))
        self.assertIn("__init__", vars(Cutter))


class CutsTest(unittest.TestCase):
    def test_cuts_in_a_tuple_and_in_a_list(self):
        told = ("may", "keep", "may", "must", "keep", "must")
        self.assertEqual(cuts_in(told), (2, 3))
        given = list(told)
        self.assertEqual(cuts_in(given), (2, 3))
        self.assertEqual(given, list(told))
        for verdicts in (("may",), ("must", "must"), ("keep", "keep", "keep")):
            self.assertEqual(cuts_in(verdicts), ())
            self.assertEqual(cuts_in(list(verdicts)), ())
        self.assertEqual(cuts_in(("keep", "must", "keep")), (1,))
        self.assertIs(type(cuts_in(["may"] * 4)), tuple)

    def test_never_at_the_ends(self):
        table = read_table("else must")
        self.assertEqual(verdicts_of(table, "abc"), ("must",) * 4)
        self.assertEqual(cuts_of(table, "abc"), (1, 2))
        self.assertEqual(cuts_of(table, "a"), ())
        self.assertEqual(cuts_of(table, ""), ())

    def test_cuts_are_the_positions_with_another_verdict_than_keep(self):
        for table in light_tables(137, 20):
            for text in texts(table, 138):
                told = verdicts_of(table, text)
                cuts = tuple(at for at in range(1, len(text)) if told[at] in ("may", "must"))
                self.assertEqual(cuts_of(table, text), cuts)
                self.assertEqual(cuts_in(told), cuts)
                self.assertEqual(cuts_in(list(told)), cuts)


class UnitsTest(unittest.TestCase):
    def test_units_stand_between_the_cuts(self):
        for table in light_tables(139, 20):
            for text in texts(table, 140):
                units = units_of(table, text)
                self.assertIs(type(units), tuple)
                self.assertEqual("".join(units), text)
                self.assertNotIn("", units)
                ends = [sum(len(unit) for unit in units[:at]) for at in range(1, len(units))]
                self.assertEqual(tuple(ends), cuts_of(table, text))

    def test_the_empty_text_has_none(self):
        for text in LIGHT_TEXTS:
            self.assertEqual(units_of(read_table(text), ""), ())

    def test_one_unit(self):
        table = read_table("else keep")
        self.assertEqual(units_of(table, "a cup"), ("a cup",))
        self.assertEqual(units_of(read_table("else may"), "a"), ("a",))

    def test_words(self):
        words = read_table(
            "class letter 'a'-'z'\nclass quote U+0027\nkeep letter | letter\nkeep letter quote | letter\n"
            "keep letter | quote letter\nelse may")
        self.assertEqual(units_of(words, "don't 'ask'"), ("don't", " ", "'", "ask", "'"))
        self.assertEqual(units_of(words, "a''b"), ("a", "'", "'", "b"))


class MakingTest(unittest.TestCase):
    def test_characters_of_every_class_are_asked(self):
        for table in light_tables(141, 5):
            self.assertEqual(set(table.classes.row_of(letters_of(table))), set(range(len(table.classes.names))))


if __name__ == "__main__":
    unittest.main()
