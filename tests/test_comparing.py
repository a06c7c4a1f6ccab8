"""Comparing [16] and its evidence [17]."""

import itertools
import random
import unittest

from making import ABC, VERDICTS, light_tables, rows_of, tables_by

from cutsanywhere.classes import Classes, common_classes
from cutsanywhere.comparing import (
    SAME, are_alike, compare, finer_pairs, is_finer, shows_always, shows_not, verdicts_between)
from cutsanywhere.tablereader import read_table
from cutsanywhere.tables import Table, is_light, verdict_at

ONE = "class a 'a'\nkeep a | a\nelse may"
TWO = "class a 'a'\nkeep a any | a\nelse may"
CROSSING = Classes([("x", ((97, 97), (120, 120))), ("y", ((98, 100), (57344, 57350)))])  # x: a and more, y: b and more
EVERY = tuple(itertools.product(VERDICTS, repeat=2))


def alike_and_not():
    """Pairs of tables, of one map and of two that cross."""
    plain = [table for table in light_tables(161, 12) if len(table.classes.names) <= 3]
    yield from zip(plain, plain)
    yield from zip(plain, plain[1:])
    chance = random.Random(162)
    for classes in ((ABC, ABC), (ABC, CROSSING), (CROSSING, ABC)):
        some = [[table for table in tables_by(chance, 20, (told,)) if is_light(table)] for told in classes]
        yield from zip(*some)
    yield from spelt_otherwise()


def spelt_otherwise():
    """Pairs of tables with the same verdicts, told otherwise."""
    for one, other in (
            (ONE, "class a 'a'\nkeep a | a a*\nelse may"),
            (ONE, "class other_a 'b'\nclass a 'a'\nkeep any* a | a any*\nelse may"),
            (ONE, "class rest U+0000-U+0060 U+0062-U+10FFFF\nkeep other | other\nelse may"),
            (TWO, "class a 'a'\nclass b 'b'\nkeep a (a / b / other) | a\nmust a a | a\nelse may"),
            ("else keep", "class a 'a'\nkeep | a*\nelse must")):
        yield read_table(one), read_table(other)


def common_rows(one, other, length):
    common = common_classes(one.classes, other.classes)
    for size in range(length + 1):
        yield from itertools.product(common, repeat=size)


def between(one, other, before, after):
    """The verdicts of two tables between two common rows, by the rules."""
    return tuple(
        verdict_at(table, tuple(pair[at] for pair in before), tuple(pair[at] for pair in after))
        for at, table in enumerate((one, other)))


def fewest(one, other, allowed, most):
    """The least total of pairs of two common rows between which the verdicts are not allowed, up to so many."""
    a, b = one.automata(), other.automata()
    states = []
    for asked in ("state_before", "state_after"):
        told = {}
        for row in common_rows(one, other, most):
            pair = tuple(getattr(automata, asked)(tuple(number[at] for number in row)) for at, automata in enumerate((a, b)))
            told.setdefault(pair, len(row))
        states.append(told)
    wrong = [
        size + late for (x, u), size in states[0].items() for (y, v), late in states[1].items()
        if (a.verdicts[x][y], b.verdicts[u][v]) not in allowed]
    return min([*wrong, most + 1])


def reached(one, other, side):
    """All pairs of states to which common rows lead."""
    found = [(0, 0)]
    ways, late = getattr(one.automata(), side), getattr(other.automata(), side)
    for x, y in found:
        for number, other_number in common_classes(one.classes, other.classes):
            to = (ways[x][number], late[y][other_number])
            if to not in found:
                found.append(to)
    return found


class PairsTest(unittest.TestCase):
    def test_same(self):
        self.assertEqual(SAME, (("keep", "keep"), ("may", "may"), ("must", "must")))
        self.assertIs(type(SAME), tuple)

    def test_finer_pairs(self):
        self.assertEqual(finer_pairs(), (
            ("keep", "keep"), ("may", "keep"), ("may", "may"), ("may", "must"), ("must", "keep"), ("must", "may"),
            ("must", "must")))
        self.assertIs(type(finer_pairs()), tuple)


class CompareTest(unittest.TestCase):
    def test_always_or_a_shortest_place(self):
        words = {}
        for one, other in alike_and_not():
            most = 3 if len(common_classes(one.classes, other.classes)) > 3 else 4
            for allowed in (SAME, finer_pairs(), EVERY, (), (("may", "may"),), EVERY[1:], EVERY[::2]):
                told = compare(one, other, allowed)
                self.assertIs(type(told), tuple)
                self.assertEqual(len(told), 3)
                words[told[0]] = words.get(told[0], 0) + 1
                least = fewest(one, other, allowed, most)
                if told[0] == "always":
                    self.assertEqual(told, (
                        "always", tuple(sorted(reached(one, other, "before"))), tuple(sorted(reached(one, other, "after")))))
                    self.assertEqual(least, most + 1)
                    self.assertTrue(shows_always(one, other, allowed, *told[1:]))
                else:
                    word, before, after = told
                    self.assertEqual(word, "not")
                    self.assertNotIn(between(one, other, before, after), allowed)
                    if len(before) + len(after) <= most:
                        self.assertEqual(len(before) + len(after), least)
                    else:
                        self.assertEqual(least, most + 1)
                    self.assertTrue(shows_not(one, other, allowed, before, after))
                    self.assertEqual((type(before), type(after)), (tuple, tuple))
        self.assertGreater(min(words.values()), 30)

    def test_a_long_way(self):
        one = read_table("class a 'a'\nkeep a any any any | a any a\nelse may")
        other = read_table("class a 'a'\nelse may")
        self.assertEqual(len(compare(one, other, SAME)[1]), 4)
        self.assertEqual(len(compare(one, other, SAME)[2]), 3)
        one = read_table("class a 'a'\nkeep start | a any a any a\nkeep a any any any | \nelse may")
        told = compare(one, other, SAME)
        self.assertEqual((told[0], len(told[1]) + len(told[2])), ("not", 4))

    def test_nothing_allowed(self):
        self.assertEqual(compare(read_table(ONE), read_table(TWO), ()), ("not", (), ()))

    def test_all_allowed(self):
        self.assertEqual(compare(read_table(ONE), read_table("class a 'a'\nmust a | a\nelse keep"), EVERY), (
            "always", ((0, 0), (1, 1)), ((0, 0), (1, 1))))

    def test_pairs_of_states_that_no_common_row_leads_to(self):
        one, other = read_table("class a 'a'\nkeep a | a\nelse may"), read_table("class a 'b'\nkeep a | a\nelse may")
        self.assertEqual(compare(one, other, EVERY)[1:], (((0, 0), (0, 1), (1, 0)), ((0, 0), (0, 1), (1, 0))))
        never_both = tuple(pair for pair in EVERY if pair != ("keep", "keep"))
        self.assertEqual(compare(one, other, never_both)[0], "always")

    def test_rows_after_stand_as_in_texts(self):
        one = read_table("class a 'a'\nclass b 'b'\nkeep | a b\nelse may")
        told = compare(one, read_table("class a 'a'\nclass b 'b'\nelse may"), SAME)
        self.assertEqual(told, ("not", (), ((0, 0), (1, 1))))

    def test_are_alike(self):
        for one, other in alike_and_not():
            self.assertEqual(are_alike(one, other), compare(one, other, SAME)[0] == "always")
            self.assertEqual(are_alike(one, other), are_alike(other, one))
            self.assertTrue(are_alike(one, one))

    def test_alike_however_they_are_told(self):
        for one, other in spelt_otherwise():
            self.assertTrue(are_alike(one, other))
            self.assertTrue(is_finer(one, other))
        self.assertFalse(are_alike(read_table(ONE), read_table("class a 'b'\nkeep a | a\nelse may")))

    def test_is_finer(self):
        keen, lazy = read_table("class a 'a'\nmust a | a\nkeep a | \nelse may"), read_table("class a 'a'\nkeep a | \nelse may")
        self.assertTrue(is_finer(keen, lazy))
        self.assertFalse(is_finer(lazy, keen))
        self.assertTrue(is_finer(read_table("else may"), read_table("else must")))
        self.assertTrue(is_finer(read_table("else must"), read_table("else keep")))
        self.assertFalse(is_finer(read_table("else keep"), read_table("else may")))
        for one, other in alike_and_not():
            told = compare(one, other, finer_pairs())[0] == "always"
            self.assertEqual(is_finer(one, other), told)

    def test_equal_answers(self):
        for one, other in itertools.islice(alike_and_not(), 10):
            again = Table(one.classes, one.lines, one.otherwise)
            self.assertEqual(compare(one, other, SAME), compare(again, other, SAME))


class AlwaysTest(unittest.TestCase):
    def always(self):
        for one, other in alike_and_not():
            for allowed in (SAME, finer_pairs(), EVERY):
                told = compare(one, other, allowed)
                if told[0] == "always":
                    yield one, other, allowed, *told[1:]

    def test_without_a_pair(self):
        for one, other, allowed, befores, afters in self.always():
            for at in range(len(befores)):
                self.assertFalse(shows_always(one, other, allowed, befores[:at] + befores[at + 1:], afters))
            for at in range(len(afters)):
                self.assertFalse(shows_always(one, other, allowed, befores, afters[:at] + afters[at + 1:]))
            self.assertFalse(shows_always(one, other, allowed, (), afters))
            self.assertFalse(shows_always(one, other, allowed, befores, ()))

    def test_in_any_order_and_twice(self):
        for one, other, allowed, befores, afters in self.always():
            self.assertTrue(shows_always(one, other, allowed, befores[::-1], afters + afters))

    def test_other_pairs_allowed(self):
        for one, other, allowed, befores, afters in self.always():
            told = {
                (one.automata().verdicts[x][y], other.automata().verdicts[u][v]) for x, u in befores for y, v in afters}
            self.assertTrue(shows_always(one, other, tuple(told), befores, afters))
            for pair in told:
                self.assertFalse(shows_always(one, other, tuple(told - {pair}), befores, afters))
            self.assertFalse(shows_always(one, other, (), befores, afters))

    def test_more_pairs(self):
        one, other = read_table("class a 'a'\nkeep a | a\nelse may"), read_table("class a 'b'\nkeep a | a\nelse may")
        never_both = tuple(pair for pair in EVERY if pair != ("keep", "keep"))
        pairs = ((0, 0), (0, 1), (1, 0))
        self.assertTrue(shows_always(one, other, never_both, pairs, pairs))
        self.assertFalse(shows_always(one, other, never_both, (*pairs, (1, 1)), (*pairs, (1, 1))))
        self.assertTrue(shows_always(one, other, never_both, pairs, (*pairs, (1, 1))))
        self.assertTrue(shows_always(one, other, EVERY, (*pairs, (1, 1)), pairs))

    def test_wrong_values(self):
        for one, other, allowed, befores, afters in self.always():
            for at in range(2):
                told = (befores, afters)[at]
                size = len(one.automata().before if at == 0 else one.automata().after)
                late = len(other.automata().before if at == 0 else other.automata().after)
                wrong = [None, True, 5, "x", list(told), {}, dict.fromkeys(told)]
                for value in (None, True, 0, "ab", (), (0,), (0, 0, 0), [0, 0], (0, None), (None, 0), (True, 0), (0, False), (0, "0"),
                              (-1, 0), (0, -1), (size, 0), (0, late), ((0, 0), 0), ([], 0)):
                    wrong += [(*told, value), (value, *told)]
                for value in wrong:
                    given = (value, afters) if at == 0 else (befores, value)
                    self.assertIs(shows_always(one, other, allowed, *given), False, value)

    def test_for_other_tables(self):
        for one, other in alike_and_not():
            told = compare(one, one, SAME)
            befores, afters = told[1:]
            expected = set(reached(one, other, "before")) <= set(befores) and set(reached(one, other, "after")) <= set(afters)
            if shows_always(one, other, SAME, befores, afters):
                self.assertTrue(expected)
                self.assertTrue(are_alike(one, other))


class NotTest(unittest.TestCase):
    def test_against_the_rules(self):
        for one, other in itertools.islice(alike_and_not(), 0, None, 3):
            rows = list(common_rows(one, other, 2 if len(common_classes(one.classes, other.classes)) < 5 else 1))
            for before in rows:
                for after in rows:
                    told = between(one, other, before, after)
                    self.assertEqual(verdicts_between(one, other, before, after), told)
                    self.assertIs(shows_not(one, other, SAME, before, after), told not in SAME)
                    self.assertIs(shows_not(one, other, (told,), before, after), False)
                    self.assertIs(shows_not(one, other, (), before, after), True)

    def test_verdicts_between(self):
        one, other = read_table("class a 'a'\nclass b 'b'\nkeep a | b b\nelse may"), read_table("class x 'b'\nmust | x x\nelse keep")
        a, b = (0, 1), (1, 0)
        self.assertEqual(verdicts_between(one, other, (a,), (b, b)), ("keep", "must"))
        self.assertEqual(verdicts_between(one, other, (a,), (b, a)), ("may", "keep"))
        self.assertEqual(verdicts_between(one, other, (), ()), ("may", "keep"))
        self.assertIs(type(verdicts_between(one, other, (), ())), tuple)

    def test_rows_that_are_not_common(self):
        one, other = read_table("class a 'a'\nkeep a | a\nelse may"), read_table("class a 'b'\nkeep a | a\nelse may")
        self.assertEqual(common_classes(one.classes, other.classes), ((0, 1), (1, 0), (1, 1)))
        self.assertTrue(shows_not(one, other, SAME, ((0, 1),), ((0, 1),)))
        self.assertTrue(shows_not(one, other, SAME, ((1, 0), (0, 1)), ((0, 1), (1, 1))))
        for wrong in (None, True, 0, "ab", [(0, 1)], (0, 1), ((0, 0),), ((0, 1), (0, 0)), ((0, 1), (2, 1)), ((0, 1), (0, 2)),
                      ((0, 1), (-1, 1)), ((0, 1), [0, 1]), ((0, 1), (0, 1, 1)), ((0, 1), (0,)), ((0, 1), ()), ((0, 1), None),
                      ((0, True),), ((False, 1),), ((0, "1"),), ((0, None),), ((0, [1]),), {(0, 1): 1}, 5):
            self.assertIs(shows_not(one, other, SAME, wrong, ((0, 1),)), False, wrong)
            self.assertIs(shows_not(one, other, SAME, ((0, 1),), wrong), False, wrong)

    def test_what_compare_told_is_not_shown_for_other_pairs(self):
        for one, other in alike_and_not():
            told = compare(one, other, SAME)
            if told[0] == "not":
                pair = verdicts_between(one, other, *told[1:])
                self.assertFalse(shows_not(one, other, (*SAME, pair), *told[1:]))
                self.assertTrue(shows_not(one, other, tuple(set(EVERY) - {pair}), *told[1:]))


class ArgumentsTest(unittest.TestCase):
    def test_they_stay(self):
        for one, other in itertools.islice(alike_and_not(), 8):
            before = [(table.classes.rows, table.lines, table.otherwise) for table in (one, other)]
            compare(one, other, SAME)
            is_finer(one, other)
            self.assertEqual(before, [(table.classes.rows, table.lines, table.otherwise) for table in (one, other)])


class MakingTest(unittest.TestCase):
    def test_rows_are_common(self):
        one, other = Table(ABC, [], "may"), Table(CROSSING, [], "may")
        self.assertEqual(common_classes(ABC, CROSSING), ((0, 0), (1, 1), (2, 0), (2, 1), (2, 2)))
        self.assertEqual(len(list(common_rows(one, other, 2))), 31)
        self.assertEqual(len(list(rows_of(5, 2))), 31)


if __name__ == "__main__":
    unittest.main()
