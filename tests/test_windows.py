"""Windows [23]."""

import itertools
import random
import unittest

from making import light_tables, rows_of, text_by

from cutsanywhere.cutting import plain_verdicts
from cutsanywhere.errors import BadThing, TooMany
from cutsanywhere.forgetting import reach
from cutsanywhere.tablereader import read_table
from cutsanywhere.tables import is_light, verdict_at
from cutsanywhere.windows import by_windows, windows

ONE = "class a 'a'\nkeep a | a\nelse may"


def wide(many, before, after):
    """A table of so many classes, for which so many characters count before and after."""
    classes = "".join(f"class c{at} U+{97 + at:04X}\n" for at in range(many - 1))
    return read_table(f"{classes}keep {'any ' * before} | {'any ' * after}\nelse may")


def within():
    for table in light_tables(231, 60):
        told = reach(table)
        many = len(table.classes.names)
        if told[0] == "within" and max(told[1:]) < 6 and many ** (told[1] + told[2]) < 1000:
            yield table, told[1], told[2]


class WindowsTest(unittest.TestCase):
    def test_the_example(self):
        found = windows(read_table(ONE))
        self.assertEqual((found[:2], found[2][((0,), (0,))], len(found[2])), ((1, 1), "keep", 9))
        self.assertEqual(by_windows(found, (0, 0, 1)), ("may", "keep", "may", "may"))

    def test_just_all_pairs_of_short_rows(self):
        sizes = set()
        for table, before, after in within():
            found = windows(table)
            self.assertEqual((type(found), len(found), found[:2]), (tuple, 3, (before, after)))
            self.assertIs(type(found[2]), dict)
            many = len(table.classes.names)
            pairs = set(itertools.product(rows_of(many, before), rows_of(many, after)))
            self.assertEqual(set(found[2]), pairs)
            for one, other in pairs:
                self.assertEqual(found[2][one, other], verdict_at(table, one, other))
            sizes.add((min(before, 2), min(after, 2)))
        self.assertGreater(len(sizes), 4)

    def test_nothing_counts(self):
        self.assertEqual(windows(read_table("else must")), (0, 0, {((), ()): "must"}))
        self.assertEqual(by_windows((0, 0, {((), ()): "must"}), (0, 0)), ("must",) * 3)

    def test_answers_that_are_changed_change_nothing(self):
        table = read_table(ONE)
        found = windows(table)
        before = dict(found[2])
        found[2].clear()
        found[2]["x"] = "y"
        self.assertEqual(windows(table), (1, 1, before))


class ByWindowsTest(unittest.TestCase):
    def test_every_position_of_many_rows(self):
        chance = random.Random(232)
        for table, before, after in within():
            found = windows(table)
            many = len(table.classes.names)
            rows = list(rows_of(many, 4 if many < 3 else 3))
            rows += [tuple(chance.randrange(many) for _ in range(size)) for size in (5, 6, 8, 13, 30)]
            for row in rows:
                told = by_windows(found, row)
                self.assertIs(type(told), tuple)
                self.assertEqual(told, tuple(verdict_at(table, row[:at], row[at:]) for at in range(len(row) + 1)))

    def test_rows_shorter_than_the_numbers(self):
        table = read_table("class a 'a'\nkeep start a any | \nmust | any any end\nelse may")
        found = windows(table)
        self.assertEqual(found[:2], (3, 3))
        for row in rows_of(2, 4):
            self.assertEqual(
                by_windows(found, row), tuple(verdict_at(table, row[:at], row[at:]) for at in range(len(row) + 1)))

    def test_texts(self):
        chance = random.Random(233)
        for table, _, _ in within():
            text = text_by(chance, table, 20)
            self.assertEqual(by_windows(windows(table), table.classes.row_of(text)), plain_verdicts(table, text))

    def test_arguments_stay(self):
        found = windows(read_table(ONE))
        before = dict(found[2])
        by_windows(found, (0, 0, 1))
        self.assertEqual(found[2], before)


class BeyondTest(unittest.TestCase):
    def test_the_side_of_reach(self):
        sides = set()
        for table in light_tables(234, 40):
            told = reach(table)
            if told[0] == "beyond":
                sides.add(told[1])
                with self.assertRaises(BadThing) as caught:
                    windows(table)
                self.assertEqual(caught.exception.thing, told[1])
        self.assertEqual(sides, {"before", "after"})

    def test_beyond_on_both_sides(self):
        table = read_table("class dot '.'\nkeep start (dot dot)* dot | dot (dot dot)* end\nelse may")
        with self.assertRaises(BadThing) as caught:
            windows(table)
        self.assertEqual(caught.exception.thing, "before")


class TooManyTest(unittest.TestCase):
    def test_more_than_so_many_pairs(self):
        for many, before, after in ((2, 6, 6), (3, 4, 4), (20, 2, 2), (5, 3, 3), (17, 2, 1), (17, 0, 3), (2, 8, 8), (20, 8, 8), (20, 4, 0)):
            table = wide(many, before, after)
            self.assertTrue(is_light(table))
            self.assertEqual(reach(table), ("within", before, after))
            with self.assertRaises(TooMany) as caught:
                windows(table)
            self.assertGreater(caught.exception.count, 5000)
            self.assertIs(type(caught.exception.count), int)

    def test_nearly_so_many_pairs(self):
        for many, before, after, size in ((2, 5, 5, 63 * 63), (3, 3, 4, 40 * 121), (5, 2, 3, 31 * 156), (16, 2, 1, 273 * 17),
                                          (20, 2, 0, 421), (2, 3, 7, 15 * 255)):
            table = wide(many, before, after)
            self.assertTrue(is_light(table))
            found = windows(table)
            self.assertEqual((found[:2], len(found[2])), ((before, after), size))

    def test_next_to_the_bound(self):
        # With 2 to 20 classes, no numbers of characters come nearer to 5,000 pairs.
        self.assertEqual([len(windows(wide(3, *told))[2]) for told in ((3, 4), (4, 3))], [4840, 4840])
        for told in ((0, 3), (3, 0)):
            self.assertRaises(TooMany, windows, wide(17, *told))  # 5,220 pairs


if __name__ == "__main__":
    unittest.main()
