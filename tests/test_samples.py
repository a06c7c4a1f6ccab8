"""Samples [35]."""

import itertools
import random
import unittest

from cutsanywhere.comparing import is_finer
from cutsanywhere.cutting import plain_verdicts, units_of, verdicts_of
from cutsanywhere.forgetting import reach, shows_beyond
from cutsanywhere.samples import character_text, line_text, word_text
from cutsanywhere.signs import text_of
from cutsanywhere.tablereader import read_table
from cutsanywhere.tables import are_light, is_light

LETTERS = "abcdefghijklmnopqrstuvwxyz"
MARKS = [chr(point) for point in range(768, 837)]
FLAGS = [chr(point) for point in range(127462, 127488)]
CHARACTERS, WORDS, LINES = (read_table(text()) for text in (character_text, word_text, line_text))


def kinds_of(text):
    return "".join("l" if sign in LETTERS else "m" if sign in MARKS else "f" for sign in text)


def is_kept(kinds, at):
    """Whether no unit of characters ends at a place of a row of letters, marks and flags."""
    before = kinds[:at]
    if kinds[at] == "m":
        return before.rstrip("m").endswith("l")
    return kinds[at] == "f" and (len(before) - len(before.rstrip("f"))) % 2 == 1


class TextTest(unittest.TestCase):
    def test_the_texts_are_read(self):
        for text in (character_text, word_text, line_text):
            self.assertIs(type(text()), str)
            self.assertEqual(text(), text())
            self.assertTrue(is_light(read_table(text())))

    def test_the_tables_are_light_together(self):
        for one, other in itertools.product((CHARACTERS, WORDS, LINES), repeat=2):
            self.assertTrue(are_light(one, other))

    def test_the_example(self):
        self.assertEqual(units_of(WORDS, "don't ask 3.5"), ("don't", " ", "ask", " ", "3.5"))
        self.assertEqual([len(unit) for unit in units_of(CHARACTERS, text_of([101, 769, 127462, 127463, 127464]))], [2, 2, 1])


class CharacterTest(unittest.TestCase):
    def check(self, text):
        kinds, verdicts = kinds_of(text), verdicts_of(CHARACTERS, text)
        self.assertEqual(verdicts, plain_verdicts(CHARACTERS, text))
        for at in range(1, len(text)):
            self.assertEqual(verdicts[at] == "keep", is_kept(kinds, at), (kinds, at))

    def test_all_short_rows(self):
        chance = random.Random(351)
        for size in range(8):
            for kinds in itertools.product((LETTERS, MARKS, FLAGS), repeat=size):
                self.check("".join(chance.choice(signs) for signs in kinds))

    def test_each_character(self):
        for sign in LETTERS:
            self.check(sign + "\u0301" + sign)
        for sign in MARKS:
            self.check("a" + sign + sign + "b")
        for sign in FLAGS:
            self.check(sign * 5)

    def test_characters_next_to_the_stretches(self):
        for sign in (chr(767), chr(837), "`", "{", "A", " "):
            self.assertNotIn("keep", verdicts_of(CHARACTERS, f"a{sign}b")[1:-1])
        for sign in (chr(127461), chr(127488)):
            self.assertNotIn("keep", verdicts_of(CHARACTERS, sign * 3)[1:-1])

    def test_no_number_is_enough_before(self):
        word, side, evidence = reach(CHARACTERS)
        self.assertEqual((word, side), ("beyond", "before"))
        self.assertTrue(shows_beyond(CHARACTERS, side, evidence))


class WordTest(unittest.TestCase):
    def test_words_and_numbers(self):
        chance = random.Random(352)
        for _ in range(300):
            units = []
            for _ in range(chance.randrange(1, 5)):
                signs, between = chance.choice(((LETTERS, "'"), ("0123456789", ".")))
                unit = "".join(chance.choice(signs) for _ in range(chance.randrange(1, 6)))
                if len(unit) > 1 and chance.random() < 0.6:
                    at = chance.randrange(1, len(unit))
                    unit = unit[:at] + between + unit[at:]
                units += [unit, " "]
            units.pop()
            self.assertEqual(units_of(WORDS, "".join(units)), tuple(units))

    def test_each_letter_and_figure(self):
        for sign in LETTERS:
            self.assertEqual(units_of(WORDS, f"{sign}a{sign}'{sign} {sign}"), (f"{sign}a{sign}'{sign}", " ", sign))
        for sign in "0123456789":
            self.assertEqual(units_of(WORDS, f"{sign}1{sign}.{sign} {sign}"), (f"{sign}1{sign}.{sign}", " ", sign))

    def test_the_first_one_is_finer(self):
        self.assertTrue(is_finer(CHARACTERS, WORDS))
        self.assertFalse(is_finer(WORDS, CHARACTERS))
        chance = random.Random(353)
        for _ in range(200):
            text = "".join(chance.choice("ab'1. \u0301\u0302\U0001f1e6\U0001f1e7\U0001f1e8") for _ in range(chance.randrange(12)))
            for one, other in zip(verdicts_of(CHARACTERS, text), verdicts_of(WORDS, text)):
                self.assertTrue(one != "keep" or other == "keep")


class LineTest(unittest.TestCase):
    def test_behind_line_feeds_and_blanks(self):
        for size in range(6):
            for signs in itertools.product("a\n z"[:4], repeat=size):
                text = "".join(signs)
                verdicts = verdicts_of(LINES, text)
                for at in range(1, size):
                    if text[at - 1] == "\n":
                        self.assertEqual(verdicts[at], "must")
                    elif text[at - 1] == " " and text[at] in LETTERS:
                        self.assertEqual(verdicts[at], "may")

    def test_all_that_may_follow(self):
        for sign in (*LETTERS, "\n", " ", "A", "1", "\u0301", "\U0001f1e6", "\U0001f600"):
            self.assertEqual(verdicts_of(LINES, f"a\n{sign}")[2], "must")
            self.assertEqual(verdicts_of(LINES, f"\n{sign}a")[1], "must")
        for sign in LETTERS:
            self.assertEqual(verdicts_of(LINES, f"a {sign}")[2], "may")
            self.assertEqual(verdicts_of(LINES, f" {sign}a")[1], "may")


if __name__ == "__main__":
    unittest.main()
