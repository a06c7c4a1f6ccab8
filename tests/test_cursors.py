"""Cursors [26]."""

import random
import unittest

from editing import NO_INTEGERS, ONE, do, edit_by, marks_of, rolled, thing_of
from making import light_tables, text_by

from cutsanywhere.cursors import Cursor
from cutsanywhere.cutting import plain_verdicts
from cutsanywhere.rolls import Roll
from cutsanywhere.tablereader import read_table

WORDS = ("delete", "erase", "home", "last", "left", "redo", "right", "undo")
MOVES = ("home", "last", "left", "right")
PAIRS = "class dot '.'\nkeep start (dot dot)* dot | dot\nelse may"


def cursor_at(roll, position):
    cursor = Cursor(roll)
    cursor.position = position
    return cursor


def by_word(cursor, word):
    return cursor.do(word)


def by_method(cursor, word):
    return getattr(cursor, word)()


def target(table, text, place, word):
    """Where a word that only moves goes from a place, word for word as it is defined."""
    verdicts = plain_verdicts(table, text)
    cuts = [at for at in range(1, len(text)) if verdicts[at] != "keep"]
    if word == "left":
        return max([cut for cut in cuts if cut < place] or [0])
    if word == "right":
        return min([cut for cut in cuts if cut > place] or [len(text)])
    return 0 if word == "home" else len(text)


class MoveTest(unittest.TestCase):
    def texts(self, seed):
        chance = random.Random(seed)
        for table in light_tables(262, 10):
            for size in (0, 1, 2, 5, 11):
                yield table, text_by(chance, table, size)

    def test_from_each_position(self):
        for table, text in self.texts(261):
            for way in (by_word, by_method):
                roll = Roll(table, text)
                for place in range(len(text) + 1):
                    for word in MOVES:
                        cursor = cursor_at(roll, place)
                        self.assertIsNone(way(cursor, word))
                        told = target(table, text, place, word)
                        self.assertEqual((cursor.position, cursor.where(), roll.text()), (told, told, text))
                self.assertFalse(roll.undo())

    def test_erase_and_delete_from_each_position(self):
        for table, text in self.texts(263):
            for way in (by_word, by_method):
                for place in range(len(text) + 1):
                    for word, move in (("erase", "left"), ("delete", "right")):
                        roll = Roll(table, text)
                        cursor = cursor_at(roll, place)
                        self.assertIsNone(way(cursor, word))
                        first, last = sorted((place, target(table, text, place, move)))
                        self.assertEqual((roll.text(), cursor.position), (text[:first] + text[last:], first))
                        self.assertIs(roll.undo(), first < last)
                        self.assertEqual(roll.text(), text)

    def test_walks_through_a_text(self):
        roll = Roll(read_table(PAIRS), ".....x..")
        cursor, places = Cursor(roll), []
        for word in ["right"] * 7 + ["left"] * 7:
            cursor.do(word)
            places.append(cursor.where())
        self.assertEqual(places, [2, 4, 5, 6, 7, 8, 8, 7, 6, 5, 4, 2, 0, 0])

    def test_with_and_without_a_cut_on_that_side(self):
        roll = rolled("aabaa")
        for place, left, right in ((0, 0, 2), (1, 0, 2), (2, 0, 3), (3, 2, 5), (4, 3, 5), (5, 3, 5)):
            for word, to in (("left", left), ("right", right)):
                cursor = cursor_at(roll, place)
                cursor.do(word)
                self.assertEqual(cursor.where(), to)

    def test_nothing_to_take_out_is_no_step(self):
        for text in ("", "aab"):
            for place, word in ((0, "erase"), (len(text), "delete")):
                roll = rolled(text)
                roll.put(0, "x")
                roll.put(0, "y")
                roll.undo()
                roll.take(0, 1)
                cursor = cursor_at(roll, place)
                cursor.do(word)
                self.assertEqual((cursor.position, roll.text()), (place, text))
                roll.undo()
                self.assertEqual(roll.text(), "x" + text)
                cursor = cursor_at(roll, 0)
                cursor.do("erase")
                self.assertTrue(roll.redo())


class CursorTest(unittest.TestCase):
    def test_at_first(self):
        roll = rolled("aab", a=1)
        cursor = Cursor(roll)
        self.assertIs(cursor.roll, roll)
        self.assertEqual((cursor.position, cursor.where()), (0, 0))

    def test_the_words(self):
        cursor = Cursor(rolled("ab"))
        self.assertEqual(cursor.words(), WORDS)
        self.assertIs(type(cursor.words()), tuple)
        self.assertEqual(list(WORDS), sorted(WORDS))

    def test_the_interface(self):
        for name in (*WORDS, "where", "words", "do", "enter"):
            self.assertIn(name, vars(Cursor))
        self.assertEqual(set(vars(Cursor(rolled("")))), {"roll", "position"})

    def test_the_example(self):
        cursor = Cursor(Roll(read_table(ONE), "baab"))
        told = cursor.right(), cursor.right(), cursor.where(), cursor.erase(), cursor.roll.text(), cursor.where()
        self.assertEqual(told, (None, None, 3, None, "bb", 1))

    def test_other_words(self):
        roll = rolled("aab", a=1)
        roll.put(0, "b")
        roll.undo()
        cursor = cursor_at(roll, 2)
        for word in ("", "Left", "left ", " left", "put", "enter", "show", "where", "words", "do", "lef", "roll", *NO_INTEGERS, 0,
                     ("left",), ["left"], {"left": 1}, {"left"}, b"left", WORDS):
            self.assertIs(thing_of(cursor.do, word), word)
            self.assertEqual((cursor.position, roll.text(), marks_of(roll)), (2, "aab", {"a": 1}))
        self.assertTrue(roll.redo())


class UndoTest(unittest.TestCase):
    def test_where_it_stands_then(self):
        for way in (by_word, by_method):
            roll = rolled("aab")
            cursor = Cursor(roll)
            cursor.last()
            cursor.enter("bbbb")
            self.assertEqual(cursor.position, 7)
            self.assertIsNone(way(cursor, "undo"))
            self.assertEqual((roll.text(), cursor.position), ("aab", 3))
            self.assertIsNone(way(cursor, "redo"))
            self.assertEqual((roll.text(), cursor.position), ("aabbbbb", 3))
            cursor.left()
            way(cursor, "undo")
            self.assertEqual((roll.text(), cursor.position), ("aab", 2))

    def test_none_to_take_back(self):
        for way in (by_word, by_method):
            for word in ("undo", "redo"):
                cursor = cursor_at(rolled("aab"), 2)
                way(cursor, word)
                self.assertEqual((cursor.roll.text(), cursor.position), ("aab", 2))

    def test_where_it_stood_counts_as_where_told(self):
        for word in ("undo", "redo"):
            roll = rolled("aaaaaa")
            cursor = cursor_at(roll, 6)
            roll.take(0, 4)
            if word == "redo":
                roll.undo()
                roll.put(0, "xxxx")
                roll.undo()
                roll.do_all([("take", 0, 4)])
                roll.put(0, "x")
                roll.undo()
            self.assertEqual((cursor.position, cursor.where()), (6, 2))
            cursor.do(word)
            # It stood at 2 in the text that was shorter: there it stands in the longer one, too.
            self.assertEqual((cursor.position, roll.size()), (2, 6 if word == "undo" else 3))

    def test_at_the_size_if_this_is_less(self):
        roll = rolled("b")
        roll.put(1, "aaa")
        roll.take(0, 4)
        roll.undo()
        cursor = cursor_at(roll, 4)
        cursor.do("redo")
        self.assertEqual((roll.text(), cursor.position), ("", 0))
        cursor.do("undo")
        self.assertEqual((roll.text(), cursor.position), ("baaa", 0))


class OutsideTest(unittest.TestCase):
    def test_a_roll_that_became_shorter(self):
        roll = rolled("aabaab")
        cursor = cursor_at(roll, 6)
        roll.take(2, 4)
        self.assertEqual((cursor.where(), cursor.position), (2, 6))
        roll.put(0, "b")
        self.assertEqual((cursor.where(), cursor.position), (3, 6))
        roll.put(0, "bbbbbb")
        self.assertEqual((cursor.where(), cursor.position), (6, 6))

    def test_words_go_from_where_it_stands(self):
        for word, text, position in (("left", "aab", 2), ("right", "aab", 3), ("erase", "aa", 2), ("delete", "aab", 3),
                                     ("home", "aab", 0), ("last", "aab", 3)):
            roll = rolled("aabaab")
            cursor = cursor_at(roll, 6)
            roll.take(0, 3)
            cursor.do(word)
            self.assertEqual((roll.text(), cursor.position), (text, position))

    def test_enter_goes_from_where_it_stands(self):
        roll = rolled("aabaab")
        cursor = cursor_at(roll, 6)
        roll.take(0, 4)
        cursor.enter("xy")
        self.assertEqual((roll.text(), cursor.position), ("abxy", 4))

    def test_two_cursors_in_one_roll(self):
        roll = rolled("aab")
        one, other = Cursor(roll), cursor_at(roll, 3)
        one.enter("bb")
        self.assertEqual((one.where(), other.where()), (2, 3))
        other.erase()
        self.assertEqual((roll.text(), one.where(), other.where()), ("bbab", 2, 2))


class EnterTest(unittest.TestCase):
    def test_at_each_position(self):
        for piece in ("", "a", "ba\U0001f600"):
            for place in range(5):
                roll = rolled("baab")
                cursor = cursor_at(roll, place)
                self.assertIsNone(cursor.enter(piece))
                self.assertEqual((roll.text(), cursor.position), ("baab"[:place] + piece + "baab"[place:], place + len(piece)))

    def test_the_empty_piece_is_a_step(self):
        roll = rolled("ab")
        roll.put(0, "x")
        cursor = cursor_at(roll, 1)
        cursor.enter("")
        self.assertEqual((roll.undo(), roll.text(), roll.undo(), roll.text()), (True, "xab", True, "ab"))


class HistoryTest(unittest.TestCase):
    def test_drawn_words_and_edits_from_outside(self):
        chance = random.Random(264)
        for table in light_tables(265, 8):
            roll, other = Roll(table, "aab"), Roll(table, "aab")
            cursor, place = Cursor(roll), 0
            for _ in range(50):
                place = min(place, len(other.text()))
                word = chance.choice((*WORDS, "enter", "outside"))
                if word == "outside":
                    edit = edit_by(chance, table, roll.size())
                    do(roll, edit)
                    do(other, edit)
                elif word == "enter":
                    piece = text_by(chance, table, chance.randrange(4))
                    cursor.enter(piece)
                    other.put(place, piece)
                    place += len(piece)
                else:
                    chance.choice((by_word, by_method))(cursor, word)
                    if word in ("undo", "redo"):
                        getattr(other, word)()
                        place = min(place, other.size())
                    elif word in MOVES:
                        place = target(table, other.text(), place, word)
                    else:
                        to = target(table, other.text(), place, "left" if word == "erase" else "right")
                        if to != place:
                            other.take(min(to, place), abs(to - place))
                        place = min(to, place)
                self.assertEqual((roll.text(), cursor.where()), (other.text(), min(place, other.size())))
                self.assertEqual(marks_of(roll), marks_of(other))


if __name__ == "__main__":
    unittest.main()
