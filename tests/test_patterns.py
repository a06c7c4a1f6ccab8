"""Patterns [6]."""

import random
import unittest

from making import EMPTY, by_regex, pattern_by, rows_of

from cutsanywhere.patterns import does_match, is_pattern, items_of, names_in, reversed_pattern

NAMES = ("a", "b", "other")
A, B, ANY, NOT_A = ("class", "a"), ("class", "b"), ("any",), ("not", "a")


def star(part):
    return ("star", part)


def row(*parts):
    return ("row", parts)


def either(*parts):
    return ("either", parts)


def matched(pattern, names=NAMES, length=3):
    """The rows that a pattern matches, as texts of the numbers of classes."""
    return ["".join(map(str, told)) for told in rows_of(len(names), length) if does_match(pattern, names, told)]


class MatchTest(unittest.TestCase):
    def test_items(self):
        self.assertEqual(matched(A), ["0"])
        self.assertEqual(matched(B), ["1"])
        self.assertEqual(matched(("class", "other")), ["2"])
        self.assertEqual(matched(ANY), ["0", "1", "2"])
        self.assertEqual(matched(NOT_A), ["1", "2"])
        self.assertEqual(matched(("not", "other")), ["0", "1"])

    def test_other_without_characters(self):
        self.assertEqual(matched(("class", "other"), ("a", "b")), [])
        self.assertEqual(matched(("not", "other"), ("a", "b")), ["0", "1"])
        self.assertEqual(matched(("star", ("class", "other")), ("a", "b")), [""])

    def test_rows(self):
        self.assertEqual(matched(row()), [""])
        self.assertEqual(matched(row(A)), ["0"])
        self.assertEqual(matched(row(A, B)), ["01"])
        self.assertEqual(matched(row(A, B, NOT_A)), ["011", "012"])
        self.assertEqual(matched(row(row(), A, row())), ["0"])
        self.assertEqual(matched(row(row(), row(row()))), [""])

    def test_eithers(self):
        self.assertEqual(matched(either(A, B)), ["0", "1"])
        self.assertEqual(matched(either(row(A, B), B, row())), ["", "1", "01"])
        self.assertEqual(matched(either(row(), row())), [""])

    def test_repeated(self):
        self.assertEqual(matched(("star", A)), ["", "0", "00", "000"])
        self.assertEqual(matched(("plus", A)), ["0", "00", "000"])
        self.assertEqual(matched(("maybe", A)), ["", "0"])
        self.assertEqual(matched(("plus", row(A, B)), length=5), ["01", "0101"])
        self.assertEqual(matched(("maybe", either(A, row(B, B)))), ["", "0", "11"])
        self.assertEqual(matched(row(A, ("maybe", B), A)), ["00", "010"])

    def test_stars_within_stars(self):
        self.assertEqual(matched(star(star(A))), ["", "0", "00", "000"])
        self.assertEqual(matched(star(row(star(A), B))), [
            told for told in ["".join(map(str, told)) for told in rows_of(2, 3)] if not told.endswith("0")])
        self.assertEqual(matched(star(("plus", ("maybe", row(A, A)))), length=4), ["", "00", "0000"])

    def test_parts_that_match_the_empty_row(self):
        self.assertEqual(matched(("plus", ("star", A))), ["", "0", "00", "000"])
        self.assertEqual(matched(("plus", EMPTY)), [""])
        self.assertEqual(matched(("star", EMPTY)), [""])
        self.assertEqual(matched(row(("maybe", A), ("maybe", B), ("maybe", A))),
                         ["", "0", "1", "00", "01", "10", "010"])
        self.assertEqual(matched(("plus", row(("star", A), ("star", B))), ("a", "b")),
                         ["".join(map(str, told)) for told in rows_of(2, 3)])

    def test_a_match_is_of_the_whole_row(self):
        self.assertFalse(does_match(A, NAMES, (0, 0)))
        self.assertFalse(does_match(row(A, B), NAMES, (0,)))
        self.assertFalse(does_match(row(A, B), NAMES, (2, 0, 1)))
        self.assertIs(does_match(A, NAMES, (0,)), True)
        self.assertIs(does_match(A, NAMES, ()), False)

    def test_against_another_matcher(self):
        chance = random.Random(6)
        for at in range(400):
            names = (NAMES, ("a", "b"))[at % 2]
            pattern = pattern_by(chance, ("a", "b", "other"), 4)
            for told in rows_of(len(names), 4):
                self.assertIs(does_match(pattern, names, told), by_regex(pattern, names, told), (pattern, told))


class FormTest(unittest.TestCase):
    def test_patterns(self):
        right = (
            A, ANY, NOT_A, ("class", "other"), ("not", "other"), ("class", "a" * 30), ("class", "x_9"), row(), row(A),
            row(A, B, ANY), either(A, B), either(row(), row()), either(A, B, A), ("star", A), ("plus", row()),
            ("maybe", ("star", ("plus", either(A, row(ANY, NOT_A))))), row(row(), row(row(row(A)))),
        )
        for thing in right:
            self.assertIs(is_pattern(thing), True, thing)

    def test_things_that_are_none(self):
        wrong = (
            None, 5, True, "any", "a", [], {}, (), ("any", "a"), ("any", ()), ["any"], ("every",), (None,), (5,), (("any",),),
            ("class",), ("class", "a", "b"), ("class", "A"), ("class", ""), ("class", "a" * 31), ("class", "keep"),
            ("class", "any"), ("class", None), ("class", 5), ("class", ("a",)), ("class", "a b"), ("class", "_a"),
            ["class", "a"], ("Class", "a"), ("not",), ("not", "start"), ("not", A), ("not", "9a"), ("not", ["a"]),
            ("row",), ("row", A), ("row", [A]), ("row", [A, B]), ("row", (A,), (B,)), ("row", (A, None)), ("row", ("any",)),
            ("row", None), ("row", (A, "b")), ("row", (A, ["class", "b"])), ("row", "any"),
            ("either",), ("either", ()), ("either", (A,)), ("either", [A, B]), ("either", (A, 5)), ("either", A, B),
            ("star",), ("star", ()), ("star", None), ("star", (A,)), ("star", (A, B)), ("star", A, B), ("star", "a"),
            ("plus", ("class", "end")), ("plus", []), ("maybe", "any"), ("maybe", ("star",)), ("times", A),
            ("row", (A, ("star", ("either", (A,))))), ("star", ("star", ("class", "B"))),
        )
        for thing in wrong:
            self.assertIs(is_pattern(thing), False, thing)

    def test_own_words_are_no_names(self):
        for word in ("class", "keep", "may", "must", "hide", "else", "any", "not", "start", "end"):
            self.assertIs(is_pattern(("class", word)), False)
            self.assertIs(is_pattern(("not", word)), False)

    def test_how_deep(self):
        for wrap in (lambda part: ("star", part), lambda part: ("row", (part,)), lambda part: ("either", (A, part)),
                     lambda part: ("maybe", part), lambda part: ("plus", part)):
            for inmost in (A, ANY, row()):
                thing = inmost
                for depth in range(1, 25):
                    thing = wrap(thing)
                    self.assertIs(is_pattern(thing), depth <= 20, depth)
                    self.assertIs(is_pattern(("either", (ANY, thing))), depth <= 19, depth)

    def test_a_row_without_parts_is_not_deep(self):
        thing = row()
        for _ in range(20):
            thing = ("star", thing)
        self.assertIs(is_pattern(thing), True)

    def test_very_deep_things(self):
        thing = A
        for _ in range(100000):
            thing = ("star", thing)
        self.assertIs(is_pattern(thing), False)


class ToldTest(unittest.TestCase):
    def test_items_of(self):
        cases = ((A, 1), (ANY, 1), (NOT_A, 1), (row(), 0), (row(A, B), 2), (either(A, row()), 1), (("star", row(A, A)), 2),
                 (row(A, ("plus", either(NOT_A, ANY, row(A, A)))), 5), (("maybe", ("star", row())), 0))
        for pattern, many in cases:
            self.assertEqual(items_of(pattern), many)

    def test_names_in(self):
        cases = ((A, ["a"]), (ANY, []), (NOT_A, ["a"]), (row(), []), (row(B, A, B), ["b", "a", "b"]),
                 (either(("class", "other"), row(B, ANY, NOT_A), B), ["other", "b", "a", "b"]),
                 (("star", row(("plus", A), ("maybe", A))), ["a", "a"]))
        for pattern, names in cases:
            self.assertEqual(names_in(pattern), names)
            self.assertIs(type(names_in(pattern)), list)

    def test_reversed_pattern(self):
        chance = random.Random(7)
        cases = [row(A, B), row(A, ("star", row(B, A))), either(row(A, B), row(B, B)), ("maybe", row(A, ("any",), B))]
        for pattern in cases + [pattern_by(chance, NAMES, 4) for _ in range(200)]:
            turned = reversed_pattern(pattern)
            self.assertTrue(is_pattern(turned))
            for told in rows_of(3, 3):
                self.assertEqual(does_match(turned, NAMES, told), does_match(pattern, NAMES, told[::-1]))
        self.assertTrue(does_match(reversed_pattern(row(A, B)), NAMES, (1, 0)))
        self.assertFalse(does_match(reversed_pattern(row(A, B)), NAMES, (0, 1)))


if __name__ == "__main__":
    unittest.main()
