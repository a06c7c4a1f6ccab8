"""Two texts [32]."""

import copy
import itertools
import random
import unittest

from making import light_tables, text_by

from cutsanywhere.alignments import change_between, shows_most, units_kept
from cutsanywhere.changes import changed, is_change
from cutsanywhere.cutting import units_of
from cutsanywhere.samples import word_text
from cutsanywhere.tablereader import read_table

UNITS = ("a", "b", " ")


def matches_of(one, other):
    return [(i, j) for i in range(len(one)) for j in range(len(other)) if one[i] == other[j]]


def most_by_all_ways(one, other):
    """How many units can be kept: the longest row of units that both have, of all rows of one."""
    for size in range(min(len(one), len(other)), -1, -1):
        rows = {tuple(one[i] for i in places) for places in itertools.combinations(range(len(one)), size)}
        if any(tuple(other[j] for j in places) in rows for places in itertools.combinations(range(len(other)), size)):
            return size
    raise AssertionError


def do_show(one, other, pairs, levels):
    """Whether pairs and levels are as they must be, word for word as it is defined."""
    matches = matches_of(one, other)
    if type(pairs) is not tuple or type(levels) is not dict:
        return False
    for pair in pairs:
        if type(pair) is not tuple or len(pair) != 2 or [type(at) for at in pair] != [int, int] or pair not in matches:
            return False
    for (i, j), (k, m) in zip(pairs, pairs[1:]):
        if not (i < k and j < m):
            return False
    for match in matches:
        if type(levels.get(match)) is not int or not 1 <= levels[match] <= len(pairs):
            return False
    return not any(
        levels[a] == levels[b] and a[0] < b[0] and a[1] < b[1] for a, b in itertools.product(matches, repeat=2))


class KeptTest(unittest.TestCase):
    def check(self, one, other, most):
        told = units_kept(one, other)
        self.assertEqual((type(told), len(told), type(told[0]), type(told[1])), (tuple, 2, tuple, dict))
        pairs, levels = told
        self.assertEqual(len(pairs), most)
        self.assertEqual(sorted(levels), matches_of(one, other))
        self.assertTrue(do_show(one, other, pairs, levels))
        self.assertIs(shows_most(one, other, pairs, levels), True)

    def test_against_all_ways(self):
        for sizes in itertools.product(range(5), repeat=2):
            for one in itertools.product(UNITS[:2], repeat=sizes[0]):
                for other in itertools.product(UNITS[:2], repeat=sizes[1]):
                    self.check(one, other, most_by_all_ways(one, other))

    def test_drawn_tuples(self):
        chance = random.Random(321)
        for _ in range(80):
            one, other = (tuple(chance.choice(UNITS + ("cup",)) for _ in range(chance.randrange(8))) for _ in range(2))
            self.check(one, other, most_by_all_ways(one, other))

    def test_empty_ones(self):
        for one, other in (((), ()), (("a",), ()), ((), ("a", "b"))):
            self.assertEqual(units_kept(one, other), ((), {}))
            self.assertIs(shows_most(one, other, (), {}), True)

    def test_texts_of_several_characters(self):
        self.check(("don't", " ", "ask"), ("ask", " ", "don't", " ", "ask"), 3)
        self.check(("ab",), ("a", "b"), 0)
        self.check(("", "a"), ("a", ""), 1)

    def test_what_is_told_can_be_changed(self):
        one, other = ("a", "b"), ("b", "a", "b")
        told = units_kept(one, other)
        before = copy.deepcopy(told)
        told[1].clear()
        self.assertEqual(units_kept(one, other), before)


class ShowsTest(unittest.TestCase):
    def test_changed_pairs_and_levels(self):
        """Each change is judged as it is defined: some of them still show it."""
        chance, told = random.Random(322), []
        for _ in range(150):
            one, other = (tuple(chance.choice(UNITS) for _ in range(chance.randrange(1, 7))) for _ in range(2))
            pairs, levels = units_kept(one, other)
            for late in self.changed_pairs(chance, one, other, pairs):
                self.assertIs(shows_most(one, other, late, levels), do_show(one, other, late, levels), late)
                told.append(do_show(one, other, late, levels))
            for late in self.changed_levels(chance, levels, len(pairs)):
                self.assertIs(shows_most(one, other, pairs, late), do_show(one, other, pairs, late), late)
                told.append(do_show(one, other, pairs, late))
        self.assertGreater(told.count(True), 50)
        self.assertGreater(told.count(False), 1000)

    def changed_pairs(self, chance, one, other, pairs):
        at = chance.randrange(len(pairs) + 1)
        yield pairs[:at] + pairs[at + 1:]
        yield pairs[:at] + pairs[max(at - 1, 0):]
        yield pairs[::-1]
        yield list(pairs)
        yield None
        yield pairs[:at] + ((chance.randrange(-1, len(one) + 1), chance.randrange(-1, len(other) + 1)),) + pairs[at + 1:]
        for pair in (None, 1, (), (0,), (0, 0, 0), "ab", (True, False), (0, None), ("a", "a"), (-1, -1), (10 ** 9, 0), {}, [0, 0], ([0], 0)):
            yield pairs[:at] + (pair,) + pairs[at + 1:]
        yield tuple(list(pair) for pair in pairs)
        yield tuple((i, j) for j, i in pairs)
        yield tuple(chance.choice(matches_of(one, other) or [(0, 0)]) for _ in pairs)

    def changed_levels(self, chance, levels, many):
        yield list(levels.items())
        yield None
        yield {**levels, (99, 99): "x"}
        yield {**levels, "x": None}
        yield {pair: level + 1 for pair, level in levels.items()}
        yield {pair: 1 for pair in levels}
        for pair in list(levels)[:3]:
            yield {late: level for late, level in levels.items() if late != pair}
            for level in (0, -1, 1, many, many + 1, None, True, "1", 1.0, chance.randrange(1, many + 1), [1]):
                yield {**levels, pair: level}

    def test_by_hand(self):
        one, other, levels = ("a", "b"), ("b", "a"), {(0, 1): 1, (1, 0): 1}
        self.assertIs(shows_most(one, other, ((0, 1),), levels), True)
        self.assertIs(shows_most(one, other, ((1, 0),), levels), True)
        self.assertIs(shows_most(one, other, (), levels), False)
        self.assertIs(shows_most(one, other, ((0, 1), (1, 0)), levels), False)
        self.assertIs(shows_most(one, other, ((0, 1), (0, 1)), levels), False)
        self.assertIs(shows_most(one, other, ((0, 0),), levels), False)
        self.assertIs(shows_most(one, other, ([0, 1],), levels), False)
        self.assertIs(shows_most(one, other, [(0, 1)], levels), False)
        for late in ({(0, 1): 1}, {(0, 1): 1, (1, 0): 0}, {(0, 1): 1, (1, 0): 2}, {(0, 1): 1, (1, 0): True}, {(0, 1): 1, (1, 0): "1"}, [1, 1]):
            self.assertIs(shows_most(one, other, ((0, 1),), late), False)

    def test_matches_of_one_level_that_ascend(self):
        same = ("a", "b")
        for levels, told in (({(0, 0): 1, (1, 1): 2}, True), ({(0, 0): 2, (1, 1): 1}, True), ({(0, 0): 1, (1, 1): 1}, False)):
            self.assertIs(shows_most(same, same, ((0, 0), (1, 1)), levels), told)
        # Matches with one side alike do not ascend: they may share a level.
        self.assertIs(shows_most(("a",), ("a", "a"), ((0, 1),), {(0, 0): 1, (0, 1): 1}), True)
        self.assertIs(shows_most(("a", "a"), ("a",), ((1, 0),), {(0, 0): 1, (1, 0): 1}), True)

    def test_empty_ones(self):
        self.assertIs(shows_most((), (), (), {}), True)
        self.assertIs(shows_most((), (), ((0, 0),), {}), False)
        self.assertIs(shows_most(("a",), ("b",), (), {}), True)
        self.assertIs(shows_most(("a",), ("a",), (), {(0, 0): 1}), False)


class BetweenTest(unittest.TestCase):
    def check(self, table, one, other):
        change = change_between(table, one, other)
        self.assertTrue(is_change(change))
        self.assertEqual(changed(one, change), other)
        units, late = units_of(table, one), units_of(table, other)
        kept = self.kept(change, units)
        self.assertEqual(len(kept), len(units_kept(units, late)[0]))
        if len(units) + len(late) < 13:
            self.assertEqual(len(kept), most_by_all_ways(units, late))
        # What is put in is whole units of the other text, too: all but those that are kept.
        put = "".join(told for kind, told in change if kind == "put")
        self.assertEqual(sorted(put + "".join(kept)), sorted(other))

    def kept(self, change, units):
        """The units that are skipped; none is skipped in part."""
        marks = "".join("s" * told if kind == "skip" else "t" * len(told) for kind, told in change if kind != "put")
        kept, at = [], 0
        for unit in units:
            part = marks[at:at + len(unit)]
            self.assertIn(part, ("s" * len(unit), "t" * len(unit)))
            kept += [unit] * (part[0] == "s")
            at += len(unit)
        self.assertEqual(at, len(marks))
        return kept

    def test_drawn_texts(self):
        chance = random.Random(323)
        for table in light_tables(324, 12):
            for _ in range(12):
                one = text_by(chance, table, chance.randrange(9))
                other = text_by(chance, table, chance.randrange(9))
                nearly = "".join(sign for sign in one if chance.random() < 0.8) + other[:1]
                for late in (one, other, nearly, ""):
                    self.check(table, one, late)
                    self.check(table, late, one)

    def test_words(self):
        table = read_table(word_text())
        for one, other in (("a cup of tea", "a cup of hot tea"), ("tea", "hot tea"), ("don't ask", "do ask, don't tell"), ("a b a", "b a b"),
                           ("3.5 cups", "3 cups"), ("", "tea"), ("tea", ""), ("", ""), ("tea", "tea"), ("abc", "xyz"), ("a a a", "a")):
            self.check(table, one, other)
        self.assertEqual(change_between(table, "tea", "tea"), (("skip", 3),))
        self.assertEqual(change_between(table, "", ""), ())
        self.assertEqual(change_between(table, "", "a b"), (("put", "a b"),))
        self.assertEqual(change_between(table, "a b", ""), (("take", "a b"),))
        self.assertEqual(change_between(table, "abc", "xyz"), (("put", "xyz"), ("take", "abc")))
        # Words are kept whole, or not at all.
        self.assertEqual(change_between(table, "don't", "do"), (("put", "do"), ("take", "don't")))

    def test_the_examples(self):
        table = read_table(word_text())
        pairs, levels = units_kept(("a", " ", "cup"), ("a", " ", "big", " ", "cup"))
        self.assertEqual((len(pairs), pairs[0], len(levels)), (3, (0, 0), 4))
        self.assertEqual(change_between(table, "a cup of tea", "a cup of hot tea")[1][0], "put")
        self.assertEqual(changed("tea", change_between(table, "tea", "hot tea")), "hot tea")


if __name__ == "__main__":
    unittest.main()
