"""Counts [22]."""

import itertools
import random
import unittest

from making import light_tables, rows_of

from cutsanywhere.counting import how_many
from cutsanywhere.cutting import row_verdicts, verdicts_of
from cutsanywhere.errors import BadThing
from cutsanywhere.tablereader import read_table

ONE = "class a 'a'\nkeep a | a\nelse may"


def one_by_one(table, weights, length):
    """The same, row by row: each row stands for as many texts as its characters' weights tell."""
    found = [0] * (length + 2)
    for row in rows_of(len(weights), length):
        if len(row) == length:
            many = 1
            for number in row:
                many *= weights[number]
            found[len([told for told in row_verdicts(table.automata(), row) if told != "keep"])] += many
    return tuple(found)


class CountsTest(unittest.TestCase):
    def test_the_example(self):
        table = read_table(ONE)
        self.assertEqual(how_many(table, (1, 25), 2), (0, 0, 1, 675))
        self.assertEqual(sum(how_many(table, (1, 25), 3)), 17576)

    def test_row_by_row(self):
        chance = random.Random(221)
        for table in light_tables(222, 30):
            many = len(table.classes.names)
            for weights in ((1,) * many, (0,) * many, tuple(chance.randrange(4) for _ in range(many)),
                            tuple(chance.choice((0, 1, 25, 1000000)) for _ in range(many)),
                            (0,) * (many - 1) + (7,), (3,) + (0,) * (many - 1)):
                for length in range(6 if many < 3 else 5):
                    told = how_many(table, weights, length)
                    self.assertIs(type(told), tuple)
                    self.assertEqual(told, one_by_one(table, weights, length))

    def test_text_by_text(self):
        table = read_table("class a 'a'-'c'\nclass b 'x'-'y'\nkeep a | b\nmust b a | a end\nelse may")
        found = [0] * 6
        for told in itertools.product("abcxyz", repeat=4):
            found[len([verdict for verdict in verdicts_of(table, "".join(told)) if verdict != "keep"])] += 1
        self.assertEqual(how_many(table, (3, 2, 1), 4), tuple(found))

    def test_length_0(self):
        self.assertEqual(how_many(read_table("else may"), (5,), 0), (0, 1))
        self.assertEqual(how_many(read_table("else must"), (0,), 0), (0, 1))
        self.assertEqual(how_many(read_table("else keep"), (1000000,), 0), (1, 0))
        self.assertEqual(how_many(read_table("class a 'a'\nkeep start | end\nelse may"), (0, 0), 0), (1, 0))

    def test_positions_0_and_length_count(self):
        table = read_table("class a 'a'\nmay start | \nmust | end\nelse keep")
        self.assertEqual(how_many(table, (1, 1), 0), (0, 1))
        for length in (1, 2, 5):
            self.assertEqual(how_many(table, (1, 1), length), (0, 0, 2 ** length, *(0,) * (length - 1)))

    def test_weights_of_0_and_the_greatest(self):
        table = read_table(ONE)
        self.assertEqual(how_many(table, (0, 0), 3), (0,) * 5)
        self.assertEqual(how_many(table, (1000000, 0), 3), (0, 0, 10 ** 18, 0, 0))
        self.assertEqual(how_many(table, (0, 1000000), 3), (0, 0, 0, 0, 10 ** 18))
        self.assertEqual(how_many(table, (1000000, 1000000), 1), (0, 0, 2 * 10 ** 6))

    def test_length_40(self):
        for table in light_tables(223, 6):
            many = len(table.classes.names)
            for weights in ((1000000,) * many, tuple(range(many))):
                told = how_many(table, weights, 40)
                self.assertEqual(len(told), 42)
                self.assertEqual(sum(told), sum(weights) ** 40)
        self.assertEqual(how_many(read_table(ONE), (1, 0), 40), (0, 0, 1) + (0,) * 39)
        self.assertEqual(how_many(read_table("else may"), (10 ** 6,), 40), (0,) * 41 + (10 ** 240,))

    def test_what_all_numbers_add_up_to(self):
        chance = random.Random(224)
        for table in light_tables(225, 15):
            weights = tuple(chance.choice((0, 1, 2, 99, 1000000)) for _ in table.classes.names)
            for length in (0, 1, 7, 20, 33):
                self.assertEqual(sum(how_many(table, weights, length)), sum(weights) ** length)

    def test_classes_that_do_the_same(self):
        table = read_table("class a 'a'\nclass b 'b'\nclass c 'c'\nkeep b | b\nelse may")
        self.assertEqual(how_many(table, (3, 1, 4, 1), 9), how_many(table, (0, 1, 8, 0), 9))
        self.assertNotEqual(how_many(table, (3, 1, 4, 1), 9), how_many(table, (0, 2, 7, 0), 9))
        for length in range(5):
            self.assertEqual(how_many(table, (3, 1, 4, 1), length), one_by_one(table, (3, 1, 4, 1), length))

    def test_counts_far_apart_do_not_mix(self):
        table = read_table("class a 'a'\nclass b 'b'\nmust a | \nkeep | \nelse may")
        self.assertEqual(
            how_many(table, (1000000, 0, 1), 4), (1, 4 * 10 ** 6, 6 * 10 ** 12, 4 * 10 ** 18, 10 ** 24, 0))


class WrongTest(unittest.TestCase):
    def wrong_weights(self):
        return (
            None, True, 5, "ab", "", (), (1,), (1, 1, 1), [1, 1], [], {0: 1, 1: 1}, (-1, 1), (1, -1), (1000001, 0), (0, 1000001),
            (True, 1), (1, False), (1, None), ("1", 1), (1, 1.0), ((1,), 1), (10 ** 30, 1), ([], 1))

    def test_weights(self):
        table = read_table(ONE)
        for weights in self.wrong_weights():
            for length in (0, 3):
                with self.assertRaises(BadThing) as caught:
                    how_many(table, weights, length)
                self.assertEqual(caught.exception.thing, weights)

    def test_lengths(self):
        table = read_table(ONE)
        for length in (-1, 41, 42, 10 ** 9, None, True, False, "3", (3,), [3], 3.0, {}):
            with self.assertRaises(BadThing) as caught:
                how_many(table, (1, 1), length)
            self.assertEqual(caught.exception.thing, length)
        how_many(table, (1, 1), 40)
        how_many(table, (1000000, 0), 0)

    def test_weights_are_asked_first(self):
        table = read_table(ONE)
        for weights in self.wrong_weights():
            for length in (-1, 41, True, None, "x"):
                with self.assertRaises(BadThing) as caught:
                    how_many(table, weights, length)
                self.assertEqual(caught.exception.thing, weights)

    def test_as_many_weights_as_classes(self):
        for table in light_tables(226, 10):
            many = len(table.classes.names)
            how_many(table, (1,) * many, 2)
            self.assertRaises(BadThing, how_many, table, (1,) * (many + 1), 2)
            self.assertRaises(BadThing, how_many, table, (1,) * (many - 1), 2)


if __name__ == "__main__":
    unittest.main()
