"""Sums [20]."""

import itertools
import random
import unittest

from making import ABC, both_rows, light_tables, text_by, texts_of

from cutsanywhere.classes import Classes
from cutsanywhere.cutting import row_verdicts, units_of, verdicts_of
from cutsanywhere.errors import BadThing
from cutsanywhere.sums import sum_of
from cutsanywhere.tablereader import read_table
from cutsanywhere.tables import Table

ONE = "class a 'a'\nkeep a | a\nelse may"
FREE = (False, ("row", ()))


def small_tables(seed, many):
    for table in light_tables(seed, many):
        if len(table.automata().before) * len(table.automata().after) < 100:
            yield table


def cell_by_verdicts(table, ahead, row, behind):
    """A cell, from the verdicts of the whole row."""
    whole = row_verdicts(table.automata(), ahead + row + behind)
    cuts = [at for at in range(1, len(row)) if whole[len(ahead) + at] != "keep"]
    if not cuts:
        return (0, len(row), len(row), 0)
    longest = max([late - early for early, late in zip(cuts, cuts[1:])], default=0)
    return (len(cuts), cuts[0], len(row) - cuts[-1], longest)


def values(told):
    """All that a sum tells."""
    cells = tuple(tuple(told.cell(x, y) for y in range(len(told.backward))) for x in range(len(told.forward)))
    return (told.size, told.forward, told.backward, told.cells, cells, told.told())


def all_values(table, text):
    """The same, from the verdicts of rows of all states around the text."""
    automata, row = table.automata(), table.classes.row_of(text)
    befores, afters = both_rows(table)
    cells = tuple(tuple(cell_by_verdicts(table, ahead, row, behind) for behind in afters) for ahead in befores)
    return (
        len(row),
        tuple(automata.state_before(ahead + row) for ahead in befores),
        tuple(automata.state_after(row + behind) for behind in afters),
        cells,
        cells,
        (len(units_of(table, text)) - 1 if text else 0, max([len(unit) for unit in units_of(table, text)], default=0)),
    )


def some_texts(table, seed):
    chance = random.Random(seed)
    yield from texts_of(table, 2)
    for size in (3, 4, 5, 6, 9, 14, 40):
        yield text_by(chance, table, size)


class SumTest(unittest.TestCase):
    def test_against_verdicts_with_rows_of_all_states(self):
        for table in small_tables(201, 30):
            for text in some_texts(table, 202):
                self.assertEqual(values(sum_of(table, text)), all_values(table, text))

    def test_kinds_of_values(self):
        for table in small_tables(203, 5):
            told = sum_of(table, "aba")
            for value in (told.forward, told.backward, told.cells, told.cells[0], told.cell(0, 0), told.told()):
                self.assertIs(type(value), tuple)
            self.assertEqual(len(told.cells), len(table.automata().before))
            self.assertEqual({len(row) for row in told.cells}, {len(table.automata().after)})
            self.assertEqual({len(cell) for row in told.cells for cell in row}, {4})

    def test_the_example(self):
        table = read_table(ONE)
        self.assertEqual((sum_of(table, "baa") + sum_of(table, "ab")).told(), (2, 3))
        self.assertEqual(sum_of(table, "baa").cell(0, 0), (1, 1, 2, 0))
        self.assertEqual(sum_of(table, "").told(), (0, 0))

    def test_no_cut_one_cut_and_several(self):
        table = read_table(ONE)
        for text, cell, told in (
                ("", (0, 0, 0, 0), (0, 0)), ("a", (0, 1, 1, 0), (0, 1)), ("aaa", (0, 3, 3, 0), (0, 3)), ("ab", (1, 1, 1, 0), (1, 1)),
                ("aaab", (1, 3, 1, 0), (1, 3)), ("baab", (2, 1, 1, 2), (2, 2)), ("aabaaabaaaa", (4, 2, 4, 3), (4, 4)),
                ("aaaaabab", (3, 5, 1, 1), (3, 5)), ("bbb", (2, 1, 1, 1), (2, 1))):
            self.assertEqual(sum_of(table, text).cell(0, 0), cell)
            self.assertEqual(sum_of(table, text).told(), told)
            self.assertEqual(sum_of(table, text).size, len(text))

    def test_states_around_a_piece(self):
        table = read_table("class a 'a'\nkeep a a | a a\nelse may")
        self.assertEqual(table.automata().before, ((1, 0), (2, 0), (2, 0)))
        self.assertEqual([sum_of(table, "aaa").cell(x, y)[0] for x in range(3) for y in range(3)], [2, 1, 1, 1, 0, 0, 1, 0, 0])

    def test_sums_of_equal_texts(self):
        for table in small_tables(204, 5):
            again = Table(table.classes, table.lines, table.otherwise)
            self.assertEqual(values(sum_of(table, "abba")), values(sum_of(again, "abba")))


def all_orders(sums):
    """The sums put together in every order of brackets."""
    if len(sums) == 1:
        return [sums[0]]
    return [
        one + other for at in range(1, len(sums)) for one in all_orders(sums[:at]) for other in all_orders(sums[at:])]


class AddTest(unittest.TestCase):
    def test_two_pieces(self):
        for table in small_tables(205, 25):
            texts = list(some_texts(table, 206))
            for text in texts:
                whole = values(sum_of(table, text))
                for at in range(len(text) + 1):
                    self.assertEqual(values(sum_of(table, text[:at]) + sum_of(table, text[at:])), whole)

    def test_every_order_of_brackets(self):
        chance = random.Random(207)
        for table in small_tables(208, 12):
            for sizes in ((1, 1, 1, 1), (2, 0, 3, 1), (0, 0, 1, 0, 2), (4, 5, 3, 6), (1, 1, 1, 1, 1)):
                pieces = [text_by(chance, table, size) for size in sizes]
                whole = values(sum_of(table, "".join(pieces)))
                for told in all_orders([sum_of(table, piece) for piece in pieces]):
                    self.assertEqual(values(told), whole)

    def test_character_by_character(self):
        chance = random.Random(209)
        for table in small_tables(210, 10):
            text = text_by(chance, table, 25)
            told = sum_of(table, "")
            for character in text:
                told = told + sum_of(table, character)
            self.assertEqual(values(told), values(sum_of(table, text)))
            self.assertEqual(told.told()[0] + 1, len(units_of(table, text)))

    def test_the_empty_text_changes_nothing(self):
        for table in small_tables(211, 15):
            empty = sum_of(table, "")
            self.assertEqual(values(empty + empty), values(empty))
            for text in some_texts(table, 212):
                told = sum_of(table, text)
                self.assertEqual(values(told + empty), values(told))
                self.assertEqual(values(empty + told), values(told))

    def test_pieces_with_no_cut_one_and_several(self):
        table = read_table(ONE)
        pieces = ("", "a", "aa", "b", "ab", "aab", "baa", "aba", "baab", "bab", "abaaabaa")
        for one, other, third in itertools.product(pieces, repeat=3):
            told = sum_of(table, one) + sum_of(table, other) + sum_of(table, third)
            self.assertEqual(values(told), all_values(table, one + other + third))

    def test_adding_changes_neither(self):
        for table in small_tables(213, 5):
            one, other = sum_of(table, "aab"), sum_of(table, "ba")
            before = values(one), values(other)
            one + other
            one + one
            self.assertEqual((values(one), values(other)), before)
            self.assertEqual(values(one + one), values(sum_of(table, "aabaab")))

    def test_unlike_automata(self):
        one = read_table(ONE)
        for text in ("class a 'a'\nmust a | a\nelse may", "class a 'a'\nkeep a | a\nelse must", "class a 'a'\nkeep a | other\nelse may",
                     "class a 'a'\nkeep a a | a\nelse may", "class a 'a'\nclass b 'b'\nkeep a | a\nelse may", "else may",
                     "class a 'a'\nkeep a | a a\nelse may"):
            other = read_table(text)
            for pieces in (("aa", "a"), ("", ""), ("a", ""), ("", "a")):
                told = sum_of(one, pieces[0]), sum_of(other, pieces[1])
                before = values(told[0]), values(told[1])
                self.assertRaises(BadThing, lambda: told[0] + told[1])
                self.assertRaises(BadThing, lambda: told[1] + told[0])
                self.assertEqual((values(told[0]), values(told[1])), before)

    def test_tables_told_otherwise_with_equal_automata(self):
        one = read_table(ONE)
        for text in ("class a 'a'\nkeep a | a a*\nelse may", "class b 'a'\nkeep any* b | b\nmust b | b\nelse may",
                     "class a 'a'\nkeep a a+ / a | a\nmay | \nelse must"):
            other = read_table(text)
            self.assertEqual(values(sum_of(one, "baa") + sum_of(other, "ab")), values(sum_of(one, "baaab")))
            self.assertEqual(values(sum_of(other, "baa") + sum_of(one, "ab")), values(sum_of(one, "baaab")))

    def test_equal_automata_over_other_classes(self):
        one, other = read_table(ONE), read_table("class a 'x'\nkeep a | a\nelse may")
        self.assertEqual(values(sum_of(one, "ba") + sum_of(other, "xy")), values(sum_of(one, "baab")))

    def test_other_things_are_not_added(self):
        told = sum_of(read_table(ONE), "a")
        for thing in (None, 1, "a", (), [told]):
            self.assertRaises(TypeError, lambda: told + thing)

    def test_the_interface(self):
        told = sum_of(Table(ABC, [("rule", "keep", FREE, FREE)], "may"), "ab")
        for name in ("cell", "told", "__add__"):
            self.assertIn(name, vars(type(told)))
        for name in ("size", "forward", "backward", "cells"):
            self.assertIn(name, vars(told))
            self.assertIn(name, vars(told + told))

    def test_many_classes(self):
        classes = Classes([(f"c{at}", ((97 + at, 97 + at),)) for at in range(10)])
        table = Table(classes, [
            ("rule", "keep", (False, ("class", f"c{at}")), (False, ("class", f"c{at + 1}"))) for at in range(9)], "may")
        chance = random.Random(214)
        text = "".join(chance.choice("abcdefghijk") for _ in range(60))
        self.assertEqual(values(sum_of(table, text[:33]) + sum_of(table, text[33:])), all_values(table, text))
        self.assertEqual(len([told for told in verdicts_of(table, text)[1:-1] if told != "keep"]), sum_of(table, text).told()[0])


if __name__ == "__main__":
    unittest.main()
