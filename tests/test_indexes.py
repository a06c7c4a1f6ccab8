"""Trees [28]."""

import random
import unittest

from editing import NO_INTEGERS, ONE, thing_of
from making import light_tables, text_by, texts_of

from cutsanywhere.cutting import cuts_of, plain_verdicts
from cutsanywhere.indexes import Index
from cutsanywhere.tablereader import read_table


class IndexTest(unittest.TestCase):
    def check(self, table, text):
        verdicts = plain_verdicts(table, text)
        cuts = [at for at in range(1, len(text)) if verdicts[at] != "keep"]
        self.assertEqual(cuts_of(table, text), tuple(cuts))
        index = Index(table, text)
        self.assertEqual((index.size, index.count()), (len(text), len(cuts)))
        self.assertEqual([index.nth(number) for number in range(len(cuts))], cuts)
        self.assertEqual([index.before(at) for at in range(len(text) + 1)],
                         [len([cut for cut in cuts if cut < at]) for at in range(len(text) + 1)])
        for number in (-1, len(cuts), len(cuts) + 1, 10 ** 20, *NO_INTEGERS):
            self.assertIs(thing_of(index.nth, number), number)
        for position in (-1, len(text) + 1, 10 ** 20, *NO_INTEGERS):
            self.assertIs(thing_of(index.before, position), position)

    def test_short_texts(self):
        for table in light_tables(281, 15):
            for text in texts_of(table, 3):
                self.check(table, text)

    def test_drawn_texts(self):
        chance = random.Random(282)
        for table in light_tables(283, 15):
            for size in (5, 8, 21):
                self.check(table, text_by(chance, table, size))

    def test_long_texts(self):
        chance, table = random.Random(284), read_table(ONE)
        text = text_by(chance, table, 5000)
        index, cuts = Index(table, text), cuts_of(table, text)
        self.assertEqual((index.size, index.count()), (5000, len(cuts)))
        self.assertEqual(tuple(index.nth(number) for number in range(len(cuts))), cuts)
        told = 0
        for at in range(5001):
            self.assertEqual(index.before(at), told)
            told += at in cuts

    def test_texts_without_a_cut(self):
        table = read_table(ONE)
        for text in ("", "a", "b", "aaaaaaaaa"):
            self.check(table, text)
            index = Index(table, text)
            self.assertEqual((index.count(), index.before(0), index.before(len(text)), thing_of(index.nth, 0)), (0, 0, 0, 0))

    def test_the_example(self):
        index = Index(read_table(ONE), "baab")
        self.assertEqual((index.count(), index.nth(1), index.before(2), index.before(4)), (2, 3, 1, 2))

    def test_the_interface(self):
        for name in ("count", "nth", "before"):
            self.assertIn(name, vars(Index))
        self.assertIn("size", vars(Index(read_table(ONE), "ab")))


if __name__ == "__main__":
    unittest.main()
