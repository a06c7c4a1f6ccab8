"""From the middle [21]."""

import itertools
import random
import unittest

from making import both_rows, light_tables, rows_of, text_by, texts_of

from cutsanywhere.errors import BadThing
from cutsanywhere.resets import known_from, reset, shows_never, shows_reset
from cutsanywhere.tablereader import read_table

TWO = "class a 'a'\nkeep a any | a\nelse may"
DOTS = "class dot '.'\nkeep start (dot dot)* dot | dot\nelse may"
PARITY = "class dot '.'\nkeep start (any any)* | any\nelse may"
THREES = "class dot '.'\nkeep start (any any any)* | any\nmust start any (any any any)* | any\nelse may"
FIRST = "class a 'a'\nkeep start a any* | \nelse may"
FLAT = "class a 'a'\nelse may"


NEVER = (
    PARITY, THREES, FIRST,
    "class a 'a'\nclass b 'b'\nkeep start (any any)* | any\nmust a | b\nelse may",
    "class a 'a'\nkeep start (any any)* a | \nmust start (other* a other* a)* other* | a\nelse may",
    "class a 'a'\nkeep start | \nmay a | a\nmust start any a any* | a\nelse keep",
)


def tables(seed, many):
    """Light tables, with several among them for which there is no row that ends all doubt."""
    yield from [read_table(text) for text in NEVER]
    yield from light_tables(seed, many)


def states_behind(table, row):
    """The states behind a row, for all that may stand ahead of it."""
    befores, _ = both_rows(table)
    return {table.automata().state_before(ahead + row) for ahead in befores}


def are_for_ever_unlike(table, pairs):
    """What the document says of pairs, word by word."""
    ways = table.automata().before
    for x, y in pairs:
        for one, other in zip(ways[x], ways[y]):
            if one == other or (min(one, other), max(one, other)) not in pairs:
                return False
    return len(pairs) > 0


class ResetTest(unittest.TestCase):
    def test_a_row_or_pairs(self):
        words = {}
        for table in tables(211, 60):
            told = reset(table)
            self.assertEqual((type(told), len(told), type(told[1])), (tuple, 2, tuple))
            words[told[0]] = words.get(told[0], 0) + 1
            if told[0] == "reset":
                self.assertEqual(len(states_behind(table, told[1])), 1)
                self.assertTrue(shows_reset(table, told[1]))
            else:
                self.assertEqual(told[0], "never")
                self.assertTrue(shows_never(table, told[1]))
                self.assertTrue(are_for_ever_unlike(table, told[1]))
                for row in rows_of(len(table.classes.names), 5):
                    self.assertGreater(len(states_behind(table, row)), 1)
        self.assertEqual(set(words), {"reset", "never"})
        self.assertGreater(min(words.values()), 4)

    def test_by_hand(self):
        for text, word in ((TWO, "reset"), (DOTS, "reset"), (PARITY, "never"), (THREES, "never"), (FIRST, "never"), (FLAT, "reset")):
            self.assertEqual(reset(read_table(text))[0], word, text)
        self.assertEqual(reset(read_table(PARITY)), ("never", ((0, 1),)))
        self.assertEqual(reset(read_table(THREES)), ("never", ((0, 1), (0, 2), (1, 2))))

    def test_one_state(self):
        self.assertTrue(shows_reset(read_table(FLAT), ()))
        self.assertTrue(shows_reset(read_table(FLAT), reset(read_table(FLAT))[1]))

    def test_a_long_row(self):
        # Only the row a b c takes the count back to nothing.
        table = read_table(
            "class a 'a'\nclass b 'b'\nclass c 'c'\n"
            "keep start (b / c / other / a)* a b c (a a)* | a\nelse may")
        told = reset(table)
        self.assertEqual(told[0], "reset")
        self.assertEqual(len(states_behind(table, told[1])), 1)

    def test_equal_answers(self):
        for table in tables(212, 5):
            self.assertEqual(reset(table), reset(table))


class ShowsResetTest(unittest.TestCase):
    def test_all_short_rows(self):
        answers = set()
        for table in tables(213, 20):
            for row in rows_of(len(table.classes.names), 4):
                told = shows_reset(table, row)
                answers.add(told)
                self.assertIs(told, len(states_behind(table, row)) == 1)
        self.assertEqual(answers, {True, False})

    def test_more_around_a_row_does_no_harm(self):
        for table in tables(214, 20):
            told = reset(table)
            if told[0] == "reset":
                for more in rows_of(len(table.classes.names), 2):
                    self.assertTrue(shows_reset(table, told[1] + more))
                    self.assertTrue(shows_reset(table, more + told[1]))

    def test_wrong_values(self):
        for text in (TWO, FLAT, PARITY):
            table = read_table(text)
            for value in (None, True, 0, "", "aa", [], [1, 1], {}, (1, 1, 2), (2,), (-1,), (1, -1), (1, 1, True), (True, True),
                          (False,), (1, None), (1, "1"), (1, (1,)), (1, 1.0), (1, [])):
                self.assertIs(shows_reset(table, value), False, value)
        self.assertTrue(shows_reset(read_table(TWO), (1, 1)))


class ShowsNeverTest(unittest.TestCase):
    def never(self):
        found = [(table, reset(table)) for table in tables(215, 30)]
        shown = [(table, told[1]) for table, told in found if told[0] == "never"]
        self.assertGreater(len(shown), 4)
        return shown

    def test_changed_pairs(self):
        for table, pairs in self.never():
            self.assertTrue(shows_never(table, pairs))
            self.assertTrue(shows_never(table, pairs[::-1]))
            self.assertTrue(shows_never(table, pairs + pairs))
            self.assertFalse(shows_never(table, ()))
            for at, (x, y) in enumerate(pairs):
                without = pairs[:at] + pairs[at + 1:]
                self.assertEqual(shows_never(table, without), are_for_ever_unlike(table, without))
                self.assertFalse(shows_never(table, without + ((y, x),)))
                self.assertFalse(shows_never(table, (*pairs, (y, x))))
                self.assertFalse(shows_never(table, (*pairs, (x, x))))

    def test_one_left_out(self):
        table = read_table(THREES)
        pairs = ((0, 1), (0, 2), (1, 2))
        self.assertTrue(shows_never(table, pairs))
        for left in itertools.combinations(pairs, 2):
            self.assertFalse(shows_never(table, left))

    def test_pairs_that_meet(self):
        table = read_table(TWO)
        many = len(table.automata().before)
        pairs = tuple((x, y) for x in range(many) for y in range(x + 1, many))
        for size in range(4):
            for told in itertools.combinations(pairs, size):
                self.assertFalse(shows_never(table, told))
        self.assertFalse(shows_never(table, pairs))
        for table in tables(216, 30):
            if reset(table)[0] == "reset":
                many = len(table.automata().before)
                self.assertFalse(shows_never(table, tuple((x, y) for x in range(many) for y in range(x + 1, many))))

    def test_fewer_pairs_may_show_it(self):
        table = read_table("class a 'a'\nclass b 'b'\nkeep start (any any)* | any\nmust a | b\nelse may")
        pairs = reset(table)[1]
        shown = [told for size in range(1, len(pairs) + 1) for told in itertools.combinations(pairs, size)
                 if shows_never(table, told)]
        self.assertEqual(shown, [
            told for size in range(1, len(pairs) + 1) for told in itertools.combinations(pairs, size)
            if are_for_ever_unlike(table, told)])

    def test_wrong_values(self):
        for table, pairs in self.never():
            many = len(table.automata().before)
            wrong = [None, True, 5, "ab", list(pairs), {}, dict.fromkeys(pairs), [], ("ab",)]
            for value in (None, True, 0, "ab", (), (0,), (0, 1, 2), [0, 1], (0, many), (-1, 0), (-2, -1), (0, None), (None, 0),
                          (0, True), (False, 1), (0, "1"), ((0, 1), 1), (0, 1.0), (0, [])):
                wrong += [(*pairs, value), (value, *pairs), (value,)]
            for value in wrong:
                self.assertIs(shows_never(table, value), False, value)


class KnownFromTest(unittest.TestCase):
    def by_states(self, table, text, position):
        row = table.classes.row_of(text)
        known = [at for at in range(position + 1) if len(states_behind(table, row[at:position])) == 1]
        return max(known, default=None)

    def test_against_all_states(self):
        chance = random.Random(217)
        seen = set()
        for table in tables(218, 30):
            for text in [*texts_of(table, 3), *(text_by(chance, table, size) for size in (5, 8, 13))]:
                for position in range(len(text) + 1):
                    told = known_from(table, text, position)
                    seen.add(None if told is None else position - told)
                    self.assertEqual(told, self.by_states(table, text, position))
        self.assertTrue({None, 0, 1, 2, 3} <= seen, seen)

    def test_by_hand(self):
        two = read_table(TWO)
        self.assertEqual([known_from(two, "abab", at) for at in range(5)], [None, None, 0, 1, 2])
        dots = read_table(DOTS)
        self.assertEqual([known_from(dots, "..a..", at) for at in range(6)], [None, None, None, 2, 2, 2])
        self.assertEqual([known_from(read_table(PARITY), "..a..", at) for at in range(6)], [None] * 6)
        self.assertEqual([known_from(read_table(FLAT), "ab", at) for at in range(3)], [0, 1, 2])
        self.assertEqual(known_from(read_table(FLAT), "", 0), 0)
        self.assertIsNone(known_from(two, "", 0))

    def test_what_stands_behind_the_position_counts_as_nothing(self):
        for table in tables(219, 10):
            for text in texts_of(table, 3):
                for position in range(len(text) + 1):
                    self.assertEqual(known_from(table, text, position), known_from(table, text[:position], position))

    def test_no_positions(self):
        table = read_table(TWO)
        for text in ("", "a", "abab"):
            for position in (-1, len(text) + 1, len(text) + 100, -len(text) - 1, None, True, False, "0", (0,), [0], 0.0, {}):
                with self.assertRaises(BadThing) as caught:
                    known_from(table, text, position)
                self.assertEqual(caught.exception.thing, position)


class ArgumentsTest(unittest.TestCase):
    def test_they_stay(self):
        for table in tables(220, 5):
            before = (table.lines, table.rules, table.otherwise, table.automata().before)
            reset(table)
            known_from(table, "abab", 3)
            self.assertEqual(before, (table.lines, table.rules, table.otherwise, table.automata().before))


if __name__ == "__main__":
    unittest.main()
