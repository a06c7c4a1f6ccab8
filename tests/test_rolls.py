"""Rolls [24]: texts that are edited, and the marks in them."""

import random
import unittest

from editing import NO_INTEGERS, ONE, WRONG_NAMES, do, edit_by, marks_of, rolled, thing_of
from making import light_tables, text_by

from cutsanywhere.cutting import plain_verdicts
from cutsanywhere.rolls import Roll
from cutsanywhere.tablereader import read_table
from cutsanywhere.tables import verdict_at

RIGHT_NAMES = ("a", "z", "a" * 30, "a_", "a0_9", "class", "keep", "start", "other", "x" + "_" * 29)


class Plain:
    """The same text and marks, told a second time: a list of characters, and marks moved word for word."""

    def __init__(self, text):
        self.text, self.marks = list(text), {}

    def put(self, position, piece):
        self.text[position:position] = list(piece)
        for name, place in self.marks.items():
            if place > position:
                self.marks[name] = place + len(piece)

    def take(self, position, many):
        taken = self.text[position:position + many]
        del self.text[position:position + many]
        for name, place in self.marks.items():
            if position < place < position + many or place == position + many:
                self.marks[name] = position
            elif place > position + many:
                self.marks[name] = place - many
        return "".join(taken)

    def mark(self, name, position):
        self.marks[name] = position


class HistoryTest(unittest.TestCase):
    def check(self, table, roll, text):
        self.assertEqual((roll.text(), roll.size()), (text, len(text)))
        row = table.classes.row_of(text)
        verdicts = tuple(verdict_at(table, row[:at], row[at:]) for at in range(len(row) + 1))
        self.assertEqual(roll.verdicts(), verdicts)
        self.assertEqual(
            roll.cuts(), tuple(at for at, verdict in enumerate(verdicts) if 0 < at < len(text) and verdict != "keep"))
        for told in (roll.verdicts(), roll.cuts()):
            self.assertIs(type(told), tuple)

    def test_drawn_histories(self):
        chance = random.Random(241)
        for table in light_tables(242, 25):
            text = text_by(chance, table, chance.choice((0, 0, 1, 4, 12)))
            roll, plain = Roll(table, text), Plain(text)
            self.check(table, roll, text)
            for _ in range(25):
                edit = edit_by(chance, table, roll.size())
                self.assertEqual(do(roll, edit), do(plain, edit))
                self.check(table, roll, "".join(plain.text))
                self.assertEqual(marks_of(roll), plain.marks)

    def test_a_text_built_and_emptied_character_by_character(self):
        for table in light_tables(243, 0):
            roll, chance = Roll(table, ""), random.Random(244)
            for _ in range(12):
                roll.put(chance.randrange(roll.size() + 1), text_by(chance, table, 1))
                self.check(table, roll, roll.text())
            while roll.size():
                text, at = roll.text(), chance.randrange(roll.size())
                self.assertEqual(roll.take(at, 1), text[at])
                self.check(table, roll, text[:at] + text[at + 1:])

    def test_characters_beyond_ascii(self):
        table = read_table("class mark U+0300-U+0344\nclass flag U+1F1E6-U+1F1FF\nkeep any | mark\nhide mark\n"
                           "keep start (any* not flag)? (flag flag)* flag | flag\nelse may")
        flags = "\U0001f1e6\U0001f1e7\U0001f1e8"
        roll = Roll(table, flags)
        self.assertEqual(roll.cuts(), (2,))
        roll.put(1, "\u0301")
        self.assertEqual((roll.size(), roll.cuts()), (4, (3,)))
        roll.put(0, "\u00e9")
        self.assertEqual((roll.text(), roll.cuts()), ("\u00e9\U0001f1e6\u0301\U0001f1e7\U0001f1e8", (1, 4)))
        self.assertEqual(roll.take(1, 2), "\U0001f1e6\u0301")
        self.assertEqual(roll.cuts(), (1,))
        self.check(table, roll, "\u00e9\U0001f1e7\U0001f1e8")

    def test_the_empty_text(self):
        for table in light_tables(245, 5):
            roll = Roll(table, "")
            self.assertEqual((roll.text(), roll.size(), roll.cuts()), ("", 0, ()))
            self.assertEqual(roll.verdicts(), (verdict_at(table, (), ()),))
            self.assertEqual(roll.take(0, 0), "")
            roll.put(0, "")
            self.assertEqual(roll.text(), "")

    def test_an_edit_far_from_a_verdict_that_changes_it(self):
        roll = Roll(read_table("class dot '.'\nkeep start (dot dot)* dot | dot\nelse may"), "." * 50)
        self.assertEqual(roll.cuts(), tuple(range(2, 50, 2)))
        roll.put(0, "x")
        self.assertEqual(roll.cuts(), tuple(range(1, 51)))
        roll.take(0, 1)
        roll.put(0, ".")
        self.assertEqual((roll.cuts(), roll.verdicts()), (tuple(range(2, 51, 2)), plain_verdicts(roll.table, "." * 51)))


class TakeTest(unittest.TestCase):
    def test_what_it_returns(self):
        for first in range(6):
            for last in range(first, 6):
                roll = rolled("abcde")
                self.assertEqual(roll.take(first, last - first), "abcde"[first:last])
                self.assertEqual(roll.text(), "abcde"[:first] + "abcde"[last:])

    def test_what_put_and_mark_return(self):
        roll = rolled("ab")
        self.assertEqual((roll.put(1, "x"), roll.mark("a", 2)), (None, None))


class MarkTest(unittest.TestCase):
    def places(self, edit):
        """Where marks at all positions of a text of 8 characters are behind an edit."""
        roll = rolled("abcdefgh", **{f"m{at}": at for at in range(9)})
        do(roll, edit)
        return [roll.place(f"m{at}") for at in range(9)]

    def test_behind_puts(self):
        self.assertEqual(self.places(("put", 4, "xyz")), [0, 1, 2, 3, 4, 8, 9, 10, 11])
        self.assertEqual(self.places(("put", 0, "x")), [0, 2, 3, 4, 5, 6, 7, 8, 9])
        self.assertEqual(self.places(("put", 8, "x")), list(range(9)))
        self.assertEqual(self.places(("put", 4, "")), list(range(9)))

    def test_behind_takes(self):
        self.assertEqual(self.places(("take", 3, 2)), [0, 1, 2, 3, 3, 3, 4, 5, 6])
        self.assertEqual(self.places(("take", 0, 3)), [0, 0, 0, 0, 1, 2, 3, 4, 5])
        self.assertEqual(self.places(("take", 5, 3)), [0, 1, 2, 3, 4, 5, 5, 5, 5])
        self.assertEqual(self.places(("take", 0, 8)), [0] * 9)
        self.assertEqual(self.places(("take", 4, 0)), list(range(9)))

    def test_a_mark_that_is_moved(self):
        roll = rolled("abc", a=1)
        roll.mark("a", 3)
        self.assertEqual(roll.place("a"), 3)
        roll.mark("a", 0)
        self.assertEqual(roll.place("a"), 0)

    def test_marks_do_not_touch_the_text(self):
        roll = rolled("baab", a=2, b=2)
        self.assertEqual((roll.text(), roll.cuts()), ("baab", (1, 3)))
        self.assertEqual((roll.place("a"), roll.place("b")), (2, 2))

    def test_two_rolls_of_one_table_are_apart(self):
        table = read_table(ONE)
        one, other = Roll(table, "ab"), Roll(table, "ab")
        one.mark("a", 1)
        one.put(0, "x")
        self.assertEqual((other.text(), thing_of(other.place, "a"), other.undo()), ("ab", "a", False))


class NameTest(unittest.TestCase):
    def test_right_names(self):
        for name in RIGHT_NAMES:
            roll = rolled("ab")
            self.assertEqual(thing_of(roll.place, name), name)
            roll.mark(name, 2)
            self.assertEqual(roll.place(name), 2)

    def test_wrong_names(self):
        roll = rolled("ab", a=1)
        for name in WRONG_NAMES:
            self.assertIs(thing_of(roll.mark, name, 1), name)
            self.assertIs(thing_of(roll.mark, name, -1), name)
            self.assertIs(thing_of(roll.place, name), name)
        self.assertTrue(roll.undo())
        self.assertEqual(thing_of(roll.place, "a"), "a")

    def test_a_mark_that_was_taken_back(self):
        roll = rolled("ab")
        roll.mark("a", 1)
        roll.undo()
        self.assertEqual(thing_of(roll.place, "a"), "a")
        roll.redo()
        self.assertEqual(roll.place("a"), 1)


class ErrorTest(unittest.TestCase):
    def state(self, roll):
        return roll.text(), marks_of(roll), roll.verdicts()

    def test_positions(self):
        for text in ("", "abc"):
            roll = rolled(text)
            before = self.state(roll)
            for position in (-1, len(text) + 1, 10 ** 20, *NO_INTEGERS):
                self.assertIs(thing_of(roll.put, position, "x"), position)
                self.assertIs(thing_of(roll.put, position, ""), position)
                self.assertIs(thing_of(roll.take, position, 0), position)
                self.assertIs(thing_of(roll.take, position, -1), position)
                self.assertIs(thing_of(roll.take, position, None), position)
                self.assertIs(thing_of(roll.mark, "a", position), position)
            self.assertEqual(self.state(roll), before)
            self.assertFalse(roll.undo())

    def test_how_many(self):
        roll = rolled("abc", a=1)
        before = self.state(roll)
        for position in range(4):
            for many in (-1, 3 - position + 1, 4, 10 ** 20, *NO_INTEGERS):
                self.assertIs(thing_of(roll.take, position, many), many)
        self.assertEqual(self.state(roll), before)
        self.assertEqual((roll.undo(), roll.undo()), (True, False))

    def test_an_error_leaves_what_can_be_done_again(self):
        roll = rolled("abc")
        roll.put(0, "x")
        roll.undo()
        for call in ((roll.put, 9, "x"), (roll.take, 0, 9), (roll.mark, "A", 0), (roll.mark, "a", 9), (roll.place, "a")):
            thing_of(*call)
        self.assertTrue(roll.redo())
        self.assertEqual(roll.text(), "xabc")

    def test_the_interface(self):
        for name in ("text", "size", "verdicts", "cuts", "put", "take", "mark", "place", "undo", "redo", "together", "do_all"):
            self.assertIn(name, vars(Roll))


if __name__ == "__main__":
    unittest.main()
