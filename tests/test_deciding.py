"""Rules [18]."""

import itertools
import random
import unittest

from making import (
    ABC, LIGHT_TEXTS, VERDICTS, both_rows, does_fit, light_tables, lines_by, pattern_by, rows_of, tables_by)

from cutsanywhere.comparing import SAME, are_alike, compare
from cutsanywhere.deciding import fitting, rule_place, slim, without_rule
from cutsanywhere.errors import BadThing
from cutsanywhere.tablereader import read_table
from cutsanywhere.tables import Table, is_light, rule_at, verdict_at

TWICE = "class a 'a'\nkeep a | a\nmust a | a\nelse may"
NO_NUMBERS = (-1, -2, None, True, False, "0", "", (0,), [0], {}, 0.0, 1.0)


def many_rules():
    """Tables of several rules, of which many hide others."""
    chance = random.Random(181)
    while True:
        lines = lines_by(chance, ("a", "b", "other"), pattern_by, chance.randrange(3, 8))
        table = Table(ABC, lines, chance.choice(VERDICTS))
        if is_light(table):
            yield table


def tables(many=30):
    yield from light_tables(182, many)
    yield from itertools.islice(many_rules(), many)


def fewest(table, number, most):
    """The least total of characters of two rows between which a rule decides, up to so many."""
    automata = table.rule_automata()
    told = []
    for asked in (automata.state_before, automata.state_after):
        sizes = {}
        for row in rows_of(len(table.classes.names), most):
            sizes.setdefault(asked(row), len(row))
        told.append(sizes)
    found = [
        size + late for x, size in told[0].items() for y, late in told[1].items() if automata.verdicts[x][y] == number]
    return min([*found, most + 1])


class PlaceTest(unittest.TestCase):
    def test_by_hand(self):
        table = read_table(TWICE)
        self.assertEqual(rule_place(table, 0), ("at", (0,), (0,)))
        self.assertEqual(rule_place(table, 1), ("never",))

    def test_as_short_as_any(self):
        words = set()
        for table in tables():
            decide = {told for row in table.rule_automata().verdicts for told in row}
            for number in range(len(table.rules)):
                told = rule_place(table, number)
                words.add(told[0])
                self.assertIs(type(told), tuple)
                if told == ("never",):
                    self.assertNotIn(number, decide)
                    continue
                word, before, after = told
                self.assertEqual(word, "at")
                self.assertEqual((type(before), type(after)), (tuple, tuple))
                self.assertEqual(rule_at(table, before, after), number)
                self.assertEqual(min(len(before) + len(after), 5), fewest(table, number, 4))
        self.assertEqual(words, {"at", "never"})

    def test_rows_stand_as_in_texts(self):
        table = read_table("class a 'a'\nclass b 'b'\nkeep a b b | b a\nelse may")
        self.assertEqual(rule_place(table, 0), ("at", (0, 1, 1), (1, 0)))
        table = read_table("class a 'a'\nclass b 'b'\nkeep start b a | a b b end\nelse may")
        self.assertEqual(rule_place(table, 0), ("at", (1, 0), (0, 1, 1)))

    def test_the_shorter_place_together(self):
        table = read_table("class a 'a'\nclass b 'b'\nmust a a a | \nkeep | a / b b b\nelse may")
        self.assertEqual(rule_place(table, 1), ("at", (), (0,)))
        table = read_table("class a 'a'\nclass b 'b'\nmust start | b\nmay b | a b\nkeep a / other a a | a b / b\nelse may")
        told = rule_place(table, 2)
        self.assertEqual(len(told[1]) + len(told[2]), 2)

    def test_rules_that_others_hide(self):
        table = read_table("class a 'a'\nkeep | \nmust a | a\nmay |\nelse may")
        self.assertEqual([rule_place(table, number) for number in range(3)], [("at", (), ()), ("never",), ("never",)])
        table = read_table("class a 'a'\nmust a | \nmay not a | \nkeep start a / any any | \nkeep | \nelse may")
        self.assertEqual(rule_place(table, 2), ("never",))
        self.assertEqual(rule_place(table, 3), ("at", (), ()))

    def test_a_rule_that_fits_nothing(self):
        table = read_table("class all U+0000-U+10FFFF\nkeep other | \nelse may")
        self.assertEqual(rule_place(table, 0), ("never",))

    def test_numbers_of_no_rule(self):
        for text in (TWICE, "else may"):
            table = read_table(text)
            for number in (*NO_NUMBERS, len(table.rules), len(table.rules) + 1):
                with self.assertRaises(BadThing) as caught:
                    rule_place(table, number)
                self.assertEqual(caught.exception.thing, number)


class FittingTest(unittest.TestCase):
    def by_rules(self, table, rows, side):
        """What fits these rows, by the definition."""
        names = table.classes.names
        free = (False, ("row", ()))
        found = set()
        for row in rows:
            fits = []
            for number, (verdict, before, after, hidden) in enumerate(table.rules):
                if side == 0 and does_fit((verdict, before, free, hidden), names, row, ()):
                    fits.append(number)
                if side == 1 and does_fit((verdict, free, after, hidden), names, (), row):
                    fits.append(number)
            found.add(tuple(fits))
        return found

    def test_against_all_short_rows(self):
        for table in tables(12):
            told = fitting(table)
            self.assertIs(type(told), tuple)
            self.assertEqual(len(told), 2)
            short = list(rows_of(len(table.classes.names), 4 if len(table.classes.names) < 3 else 3))
            for side in range(2):
                self.assertIs(type(told[side]), tuple)
                self.assertEqual(sorted(set(told[side])), list(told[side]))
                for fits in told[side]:
                    self.assertEqual((type(fits), sorted(set(fits))), (tuple, list(fits)))
                found = self.by_rules(table, short, side)
                self.assertLessEqual(found, set(told[side]))
                if found != set(told[side]):
                    # Longer rows are needed for the others.
                    longer = list(rows_of(len(table.classes.names), 6))
                    self.assertEqual(self.by_rules(table, longer, side), set(told[side]))

    def test_by_hand(self):
        self.assertEqual(fitting(read_table(TWICE)), (((), (0, 1)), ((), (0, 1))))
        self.assertEqual(fitting(read_table("else may")), (((),), ((),)))
        table = read_table("class a 'a'\nkeep a | \nhide a\nmust | other end\nmay start | a\nelse may")
        self.assertEqual(fitting(table), (((0, 1), (0, 1, 2), (1,), (1, 2)), ((0,), (0, 1))))
        self.assertEqual(fitting(read_table("class a 'a'\nkeep a a a a | a a a a a end\nelse may")), (
            ((), (0,)), ((), (0,))))

    def test_every_decision_is_among_them(self):
        for table in tables(10):
            befores, afters = fitting(table)
            firsts = {min(set(one) & set(other), default=None) for one in befores for other in afters}
            self.assertEqual(firsts, {told for row in table.rule_automata().verdicts for told in row})


class WithoutTest(unittest.TestCase):
    def test_each_number(self):
        for table in tables(20):
            for number in range(len(table.rules)):
                told = without_rule(table, number)
                self.assertIs(told.classes, table.classes)
                self.assertEqual(told.otherwise, table.otherwise)
                self.assertEqual(told.rules, table.rules[:number] + table.rules[number + 1:])
                if told.lines:
                    self.assertEqual(told.lines[-1][0], "rule")

    def test_lines_in_order(self):
        table = read_table("class a 'a'\nhide a\nkeep a | \nhide other\nhide a\nmust a | a\nhide other\nmay | \nhide a\nelse may")
        lines = table.lines
        self.assertEqual(without_rule(table, 0).lines, (lines[0], *lines[2:7]))
        self.assertEqual(without_rule(table, 1).lines, lines[:4] + lines[5:7])
        self.assertEqual(without_rule(table, 2).lines, lines[:5])
        self.assertEqual(without_rule(without_rule(table, 2), 1).lines, lines[:2])
        self.assertEqual(without_rule(without_rule(without_rule(table, 2), 1), 0).lines, ())

    def test_numbers_of_no_rule_leave_all_rules(self):
        table = read_table("class a 'a'\nhide a\nkeep a | \nmust a | a\nhide other\nhide a\nelse must")
        for number in (*NO_NUMBERS, 2, 3, 100):
            told = without_rule(table, number)
            self.assertEqual(told.lines, table.lines[:3])
            self.assertEqual(told.rules, table.rules)
            self.assertEqual(told.otherwise, "must")
        self.assertEqual(without_rule(read_table("class a 'a'\nhide a\nelse may"), 0).lines, ())

    def test_the_table_stays(self):
        table = read_table(TWICE)
        lines = table.lines
        without_rule(table, 0)
        self.assertEqual((table.lines, len(table.rules)), (lines, 2))


def slim_by_the_words(table):
    """The rules that stay, left out one by one from the last one on."""
    late = table
    for number in reversed(range(len(table.rules))):
        left = without_rule(late, number)
        if compare(late, left, SAME)[0] == "always":
            late = left
    return without_rule(late, None)


class SlimTest(unittest.TestCase):
    def test_by_the_words(self):
        sizes = set()
        for table in tables(40):
            late, places = slim(table)
            self.assertEqual(late.lines, slim_by_the_words(table).lines)
            self.assertIs(late.classes, table.classes)
            self.assertEqual(late.otherwise, table.otherwise)
            self.assertTrue(are_alike(late, table))
            sizes.add(len(table.rules) - len(late.rules))
        self.assertGreater(len(sizes), 4)

    def test_places(self):
        for table in tables(40):
            late, places = slim(table)
            self.assertIs(type(places), tuple)
            self.assertEqual(len(places), len(late.rules))
            for number, place in enumerate(places):
                self.assertEqual((type(place), len(place)), (tuple, 2))
                before, after = place
                self.assertEqual((type(before), type(after)), (tuple, tuple))
                self.assertEqual(rule_at(late, before, after), number)
                self.assertNotEqual(verdict_at(late, before, after), verdict_at(without_rule(late, number), before, after))

    def test_no_rule_can_be_left_out(self):
        for table in tables(20):
            late = slim(table)[0]
            for number in range(len(late.rules)):
                self.assertFalse(are_alike(late, without_rule(late, number)))
            self.assertEqual(slim(late)[0].lines, late.lines)

    def test_the_same_verdicts_everywhere(self):
        for table in tables(10):
            late = slim(table)[0]
            befores, afters = both_rows(table)
            for before in befores:
                for after in afters:
                    self.assertEqual(verdict_at(late, before, after), verdict_at(table, before, after))

    def test_from_the_last_rule_on(self):
        # Either of the two could be left out: the last one is.
        table = read_table("class a 'a'\nkeep a | a\nkeep a | a\nelse may")
        late, places = slim(table)
        self.assertEqual((late.lines, places), (table.lines[:1], (((0,), (0,)),)))
        table = read_table("class a 'a'\nkeep a | a\nkeep a | any\nelse may")
        self.assertEqual(slim(table)[0].lines, table.lines[1:])
        table = read_table("class a 'a'\nkeep a | any\nkeep a | a\nelse may")
        self.assertEqual(slim(table)[0].lines, table.lines[:1])

    def test_rules_that_say_what_is_so_otherwise(self):
        table = read_table("class a 'a'\nmay a | a\nkeep a | a\nmay | \nelse may")
        late, places = slim(table)
        self.assertEqual((late.lines, places), ((), ()))

    def test_hide_lines(self):
        table = read_table("class a 'a'\nhide a\nkeep other | other\nhide other\nmust a | a\nhide a\nelse may")
        late, places = slim(table)
        self.assertEqual(late.lines, table.lines[:2])
        self.assertEqual(len(places), 1)
        table = read_table("class a 'a'\nkeep a | a\nhide a\nelse may")
        self.assertEqual(slim(table)[0].lines, table.lines[:1])
        self.assertEqual(slim(read_table("class a 'a'\nhide a\nelse may"))[0].lines, ())
        # The first hide line stays: a rule stands behind it still.
        table = read_table("class a 'a'\nhide a\nkeep other | other\nhide other\nkeep | \nelse may")
        self.assertEqual(slim(table)[0].lines, (table.lines[0], *table.lines[2:]))

    def test_the_table_stays(self):
        for text in LIGHT_TEXTS:
            table = read_table(text)
            before = (table.lines, table.rules, table.otherwise)
            slim(table)
            fitting(table)
            self.assertEqual(before, (table.lines, table.rules, table.otherwise))

    def test_equal_answers(self):
        for table in tables_by(random.Random(183), 10):
            again = Table(table.classes, table.lines, table.otherwise)
            self.assertEqual(slim(table)[1], slim(again)[1])
            self.assertEqual(fitting(table), fitting(again))
            for number in range(len(table.rules)):
                self.assertEqual(rule_place(table, number), rule_place(again, number))


if __name__ == "__main__":
    unittest.main()
