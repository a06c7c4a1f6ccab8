"""Changes [29]."""

import copy
import itertools
import random
import unittest

from editing import NO_INTEGERS, thing_of
from tagging import change_by, change_by_chance, changes_of, done, tagged, untagged

from cutsanywhere.changes import (
    change_at, changed, composed, in_form, is_change, moved_place, size_after, size_before, undone)
from cutsanywhere.errors import BadThing

CHANGES = (
    (), (("skip", 1),), (("put", "x"),), (("take", "x"),), (("put", "ab"), ("take", "cd")), (("skip", 3), ("put", "\U0001f600")),
    (("put", "x"), ("skip", 1), ("put", "y")), (("take", "x"), ("skip", 1), ("take", "y")), (("skip", 1), ("take", "x"), ("skip", 2)),
    (("skip", 1), ("put", "a"), ("take", "a"), ("skip", 10 ** 20), ("put", "\n"), ("take", "\u0301")))
NO_CHANGES = (
    None, 1, True, "", "skip", b"", [], {}, {"skip": 1}, set(), [("skip", 1)], ("skip", 1), ("put", "x"), (["skip", 1],), (("skip", 1), ["put", "x"]),
    ((),), (("skip",),), (("skip", 1, 1),), (("put", "x", "y"),), (("put",),), (("take",),), (1,), (None,), ("skip",), ("ab",), ("",), ((1, 1),),
    (("skip", 0),), (("skip", -1),), (("skip", True),), (("skip", "1"),), (("skip", None),), (("skip", 1.0),), (("skip", [1]),),
    (("put", ""),), (("take", ""),), (("put", 1),), (("take", None),), (("put", b"x"),), (("put", ["x"]),), (("put", ("x",)),), (("put", True),),
    (("Skip", 1),), (("keep", 1),), (("", 1),), ((None, 1),), ((True, 1),), ((["skip"], 1),), (("delete", "x"),), (("insert", "x"),),
    (("skip", 1), ("skip", 1)), (("put", "x"), ("put", "y")), (("take", "x"), ("take", "y")), (("take", "x"), ("put", "y")),
    (("skip", 1), ("put", "x"), ("take", "y"), ("put", "z")), (("skip", 1), ("take", "x"), ("put", "y"), ("skip", 1)),
    (("skip", 1), ("put", "x"), ("skip", 0)), (("skip", 1), ("put", "x"), ("skip", 1), ("skip", 1)), (("put", "x"), None), (None, ("put", "x")),
    (("put", "\ud800"),), (("take", "a\udfff"),), (("put", "x"), ("take", ""), ("skip", 1)))


def parts_of(change):
    """A change as parts of one character each."""
    return [(kind, 1) if kind == "skip" else (kind, sign) for kind, told in change
            for sign in (range(told) if kind == "skip" else told)]


class FormTest(unittest.TestCase):
    def test_changes(self):
        for change in CHANGES:
            self.assertIs(is_change(change), True)
        for change in changes_of("ab", ("x", "yz")):
            self.assertIs(is_change(change), True)

    def test_values_that_are_none(self):
        for thing in NO_CHANGES:
            self.assertIs(is_change(thing), False, thing)

    def test_each_two_neighbours(self):
        parts = {"skip": ("skip", 1), "put": ("put", "x"), "take": ("take", "x")}
        for one, other in itertools.product(parts, repeat=2):
            wrong = one == other or (one, other) == ("take", "put")
            self.assertIs(is_change((parts[one], parts[other])), not wrong)

    def test_in_form_of_all_short_rows(self):
        kinds = (("skip", 0), ("skip", 1), ("skip", 2), ("put", ""), ("put", "a"), ("put", "bc"), ("take", ""), ("take", "d"), ("take", "ef"))
        for size in range(5):
            for parts in itertools.product(kinds, repeat=size):
                change = in_form(parts)
                self.assertTrue(is_change(change))
                self.assertEqual(change, self.joined(parts))

    def joined(self, parts):
        """The form told by skips: what stands between two of them is put together by kind."""
        gaps, skips = [["", ""]], []
        for kind, told in parts:
            if kind == "skip" and told:
                skips.append(told)
                gaps.append(["", ""])
            elif kind != "skip":
                gaps[-1][kind == "take"] += told
        found = []
        for at, (put, take) in enumerate(gaps):
            found += [("put", put)] * bool(put) + [("take", take)] * bool(take)
            for skip in skips[at:at + 1]:
                if found and found[-1][0] == "skip":
                    skip += found.pop()[1]
                found.append(("skip", skip))
        return tuple(found)

    def test_in_form_of_lists_and_tuples(self):
        parts = [("take", "x"), ("put", "a"), ("skip", 0), ("take", "y"), ("put", ""), ("put", "b"), ("skip", 2), ("skip", 0), ("skip", 1)]
        for told in (parts, tuple(parts)):
            self.assertEqual(in_form(told), (("put", "ab"), ("take", "xy"), ("skip", 3)))
            self.assertIs(type(in_form(told)), tuple)
        self.assertEqual(len(parts), 9)
        for nothing in ([], (), [("skip", 0)], (("put", ""), ("take", ""), ("skip", 0))):
            self.assertEqual(in_form(nothing), ())

    def test_in_form_of_changes(self):
        for change in CHANGES:
            self.assertEqual(in_form(change), change)
            self.assertEqual(in_form(list(change)), change)
        for change in changes_of("ab", ("x", "yz")):
            self.assertEqual(in_form(parts_of(change)), change)


class ChangedTest(unittest.TestCase):
    def test_all_changes_of_short_texts(self):
        for text in ("", "a", "ab", "aba"):
            for change in changes_of(text, ("x",)):
                self.assertEqual(changed(text, change), untagged(done(tagged("text", text), change, "put")))
                self.assertEqual((size_before(change), size_after(change)), (len(text), len(changed(text, change))))

    def test_a_change_by_hand(self):
        change = (("skip", 2), ("put", "cake"), ("take", "cup"), ("skip", 1), ("take", "!"), ("skip", 1), ("put", "."))
        self.assertEqual(changed("a cup ! ", change), "a cake  .")
        self.assertEqual((size_before(change), size_after(change)), (8, 9))

    def test_texts_of_other_sizes(self):
        for text in ("", "a", "ab", "aba"):
            for change in changes_of(text, ("x",)):
                for other in ("", "a", "ab", "aba", "abab"):
                    if len(other) != len(text):
                        self.assertRaises(BadThing, changed, other, change)

    def test_what_is_taken_is_not_there(self):
        for change in ((("take", "a"),), (("take", "A"), ("put", "x")), (("put", "x"), ("take", "a"))):
            self.assertRaises(BadThing, changed, "b", in_form(change))
        for text in ("abd", "axc", "bc", "abcd", "abbc"):
            self.assertRaises(BadThing, changed, text, (("skip", 1), ("take", "bc")))
        self.assertEqual(changed("abc", (("skip", 1), ("take", "bc"))), "a")
        self.assertRaises(BadThing, changed, "aba", (("take", "ab"), ("skip", 2)))

    def test_sizes(self):
        for change in CHANGES:
            before = sum(told if kind == "skip" else len(told) for kind, told in change if kind != "put")
            after = sum(told if kind == "skip" else len(told) for kind, told in change if kind != "take")
            self.assertEqual((size_before(change), size_after(change)), (before, after))


class ChangeAtTest(unittest.TestCase):
    def test_each_position(self):
        for text in ("", "a", "abc"):
            for position in range(len(text) + 1):
                for many in range(len(text) - position + 1):
                    for piece in ("", "x", "yz", text[position:position + many]):
                        change = change_at(text, position, many, piece)
                        self.assertTrue(is_change(change))
                        self.assertEqual(changed(text, change), text[:position] + piece + text[position + many:])
                        taken = text[position:position + many]
                        told = [("skip", position), ("put", piece), ("take", taken), ("skip", len(text) - position - many)]
                        merged = in_form(told)
                        self.assertEqual(change, merged)
                        self.assertEqual([part[1] for part in change if part[0] == "put"], [piece] * bool(piece))
                        self.assertEqual([part[1] for part in change if part[0] == "take"], [taken] * bool(taken))

    def test_by_hand(self):
        self.assertEqual(change_at("a cup", 2, 3, "cake"), (("skip", 2), ("put", "cake"), ("take", "cup")))
        self.assertEqual(change_at("ab", 1, 0, ""), (("skip", 2),))
        self.assertEqual(change_at("ab", 0, 1, "a"), (("put", "a"), ("take", "a"), ("skip", 1)))
        self.assertEqual(change_at("", 0, 0, ""), ())

    def test_positions(self):
        for text in ("", "abc"):
            for position in (-1, len(text) + 1, 10 ** 20, *NO_INTEGERS):
                for many in (0, -1, None):
                    self.assertIs(thing_of(change_at, text, position, many, "x"), position)

    def test_how_many(self):
        for position in range(4):
            for many in (-1, 4 - position, 10 ** 20, *NO_INTEGERS):
                self.assertIs(thing_of(change_at, "abc", position, many, "x"), many)


class UndoneTest(unittest.TestCase):
    def test_it_takes_the_change_back(self):
        for text in ("", "a", "ab", "aba"):
            for change in changes_of(text, ("x", "a")):
                back = undone(change)
                self.assertTrue(is_change(back))
                self.assertEqual(changed(changed(text, change), back), text)
                self.assertEqual(undone(back), change)

    def test_against_tags(self):
        chance = random.Random(291)
        for _ in range(200):
            text = "".join(chance.choice("abc") for _ in range(chance.randrange(9)))
            change = change_by_chance(chance, text, "abc")
            before = tagged("text", text)
            self.assertEqual(undone(change), change_by(done(before, change, "put"), before))

    def test_by_hand(self):
        self.assertEqual(undone((("skip", 1), ("put", "ab"), ("take", "c"))), (("skip", 1), ("put", "c"), ("take", "ab")))
        self.assertEqual(undone(()), ())
        self.assertEqual(undone((("take", "a"), ("skip", 2), ("put", "b"))), (("put", "a"), ("skip", 2), ("take", "b")))


class ComposedTest(unittest.TestCase):
    def check(self, text, one, other):
        told = composed(one, other)
        before = tagged("text", text)
        late = done(done(before, one, "one"), other, "other")
        self.assertTrue(is_change(told))
        self.assertEqual(changed(text, told), changed(changed(text, one), other))
        self.assertEqual(told, change_by(before, late))

    def test_all_changes_of_short_texts(self):
        for text, pieces in (("", ("x", "yz")), ("a", ("x", "yz")), ("ab", ("x",))):
            for one in changes_of(text, pieces):
                for other in changes_of(changed(text, one), ("w",)):
                    self.check(text, one, other)

    def test_drawn_changes(self):
        chance = random.Random(292)
        for _ in range(400):
            text = "".join(chance.choice("abc") for _ in range(chance.randrange(12)))
            one = change_by_chance(chance, text, "abc")
            self.check(text, one, change_by_chance(chance, changed(text, one), "abc"))

    def test_several_in_a_row(self):
        chance = random.Random(293)
        for _ in range(60):
            text = "".join(chance.choice("abc") for _ in range(8))
            changes, texts = [], [text]
            for _ in range(4):
                changes.append(change_by_chance(chance, texts[-1], "abc"))
                texts.append(changed(texts[-1], changes[-1]))
            one, two, three, four = changes
            for told in (composed(composed(composed(one, two), three), four), composed(composed(one, two), composed(three, four)),
                         composed(one, composed(two, composed(three, four)))):
                self.assertEqual(changed(text, told), texts[-1])

    def test_neighbours_of_every_kind(self):
        kinds = (("skip", 2), ("put", "xy"), ("take", "ab"))
        for one in itertools.product(kinds, repeat=3):
            change = in_form(one)
            text, at = "", 0
            for kind, told in change:
                text += {"skip": "cdefgh"[at:at + told] if kind == "skip" else "", "put": "", "take": told}[kind]
                at += told if kind == "skip" else 0
            for other in changes_of(changed(text, change)[:3], ("w",)):
                late = in_form((*other, ("skip", len(changed(text, change)[3:]))))
                self.check(text, change, late)

    def test_by_hand(self):
        self.assertEqual(composed((("put", "x"),), (("take", "x"),)), ())
        self.assertEqual(composed((("skip", 1), ("put", "xyz")), (("skip", 2), ("put", "w"), ("take", "y"), ("skip", 1))),
                         (("skip", 1), ("put", "xwz")))
        self.assertEqual(composed((("take", "a"), ("skip", 1)), (("put", "a"), ("skip", 1))), (("put", "a"), ("take", "a"), ("skip", 1)))
        self.assertEqual(composed((("skip", 3),), (("skip", 1), ("take", "q"), ("skip", 1))), (("skip", 1), ("take", "q"), ("skip", 1)))

    def test_sizes_that_do_not_fit(self):
        for one, other in (((), (("skip", 1),)), ((("skip", 1),), ()), ((("put", "x"),), (("skip", 2),)), ((("take", "x"),), (("take", "x"),)),
                           ((("skip", 2),), (("skip", 1), ("put", "x"))), ((("put", "ab"), ("skip", 1)), (("take", "ab"),))):
            self.assertRaises(BadThing, composed, one, other)

    def test_what_one_puts_otherwise(self):
        for one, other in (((("put", "x"),), (("take", "y"),)), ((("put", "ab"),), (("skip", 1), ("take", "c"))),
                           ((("skip", 1), ("put", "ab"), ("take", "z")), (("take", "qba"),)), ((("put", "a"), ("skip", 1)), (("take", "ba"),)),
                           ((("put", "a"), ("skip", 1), ("put", "b")), (("take", "axc"),))):
            self.assertRaises(BadThing, composed, one, other)

    def test_what_is_taken_from_the_text_is_not_compared(self):
        self.assertEqual(composed((("take", "a"), ("skip", 1)), (("take", "b"),)), (("take", "ab"),))
        self.assertEqual(composed((("put", "a"), ("skip", 1), ("put", "b")), (("take", "aqb"),)), (("take", "q"),))


class MovedTest(unittest.TestCase):
    def test_each_position(self):
        for text in ("", "a", "ab", "aba"):
            for change in changes_of(text, ("x", "yz")):
                for position in range(len(text) + 1):
                    self.assertEqual(moved_place(position, change), self.place(text, change, position))

    def place(self, text, change, position):
        """Characters that stand ahead are counted one by one, and pieces by their positions in the text."""
        at, moved = 0, 0
        for kind, told in parts_of(change):
            if at < position and kind != "take":
                moved += 1
            at += kind != "put"
        return moved

    def test_by_hand(self):
        change = (("skip", 2), ("put", "xy"), ("take", "cd"), ("skip", 2), ("put", "z"))
        self.assertEqual([moved_place(at, change) for at in range(7)], [0, 1, 2, 4, 4, 5, 6])
        self.assertEqual([moved_place(at, (("put", "xy"), ("skip", 1))) for at in range(2)], [0, 3])
        self.assertEqual(moved_place(0, (("put", "xy"),)), 0)
        self.assertEqual(moved_place(0, ()), 0)


class ArgumentTest(unittest.TestCase):
    def test_arguments_stay(self):
        parts = [("take", "x"), ("put", "a"), ("skip", 0), ("put", "b")]
        before = copy.deepcopy(parts)
        in_form(parts)
        self.assertEqual(parts, before)


if __name__ == "__main__":
    unittest.main()
