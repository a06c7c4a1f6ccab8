"""Code points [3], and what an integer is [2]."""

import unittest

from cutsanywhere.errors import BadThing
from cutsanywhere.signs import is_point, known_points, point_by, point_text, points_of, text_of

KNOWN = (
    (10, 10), (32, 36), (38, 126), (192, 383), (768, 836), (913, 929), (931, 969), (1040, 1103), (1488, 1514),
    (2325, 2361), (4352, 4370), (4449, 4469), (4520, 4546), (8205, 8205), (12353, 12435), (65039, 65039),
    (127462, 127487), (127995, 127999), (128512, 128591),
)


class PointTest(unittest.TestCase):
    def test_points(self):
        for point in (0, 1, 10, 97, 55294, 55295, 57344, 57345, 65535, 65536, 1114110, 1114111):
            self.assertIs(is_point(point), True, point)

    def test_numbers_that_are_no_points(self):
        for number in (-1, -97, 55296, 55297, 56319, 56320, 57342, 57343, 1114112, 10 ** 30, -(10 ** 30)):
            self.assertIs(is_point(number), False, number)

    def test_values_that_are_no_integers(self):
        for thing in (True, False, None, 97.0, "a", "97", b"a", (97,), [97], {}, {97}, 1 + 0j, object()):
            self.assertIs(is_point(thing), False, thing)


class KnownTest(unittest.TestCase):
    def test_known_points_as_listed(self):
        self.assertEqual(known_points(), KNOWN)
        self.assertIs(type(known_points()), tuple)
        for stretch in known_points():
            self.assertIs(type(stretch), tuple)

    def test_they_neither_overlap_nor_touch(self):
        for (_, last), (first, _) in zip(known_points(), known_points()[1:]):
            self.assertGreater(first, last + 1)


class TextTest(unittest.TestCase):
    def test_there_and_back_at_both_ends(self):
        for first, last in KNOWN:
            self.assertEqual(text_of((first, last)), chr(first) + chr(last))
            self.assertEqual(points_of(text_of([first, last])), (first, last))

    def test_every_known_point(self):
        for first, last in KNOWN:
            for point in range(first, last + 1):
                self.assertEqual(text_of((point,)), chr(point))
                self.assertEqual(points_of(chr(point)), (point,))

    def test_empty(self):
        self.assertEqual(text_of(()), "")
        self.assertEqual(text_of([]), "")
        self.assertEqual(points_of(""), ())

    def test_points_of_any_text(self):
        self.assertEqual(points_of("a%\x00\u20ac\U0010ffff"), (97, 37, 0, 8364, 1114111))

    def test_just_outside_a_stretch(self):
        known = {point for first, last in KNOWN for point in range(first, last + 1)}
        for first, last in KNOWN:
            for point in (first - 1, last + 1):
                self.assertNotIn(point, known)
                with self.assertRaises(BadThing) as caught:
                    text_of([first, last, point])
                self.assertEqual(caught.exception.thing, point)

    def test_values_of_other_kinds(self):
        for thing in (True, None, 97.0, "a", (97,), [97], {}, -1, 55296, 57343, 1114112):
            with self.assertRaises(BadThing) as caught:
                text_of((97, 98, thing, 99))
            self.assertIs(caught.exception.thing, thing)

    def test_the_first_wrong_value_is_told(self):
        for points in ([97, 37, "a"], (37, -1), [97, 98, 37, 127, 0]):
            with self.assertRaises(BadThing) as caught:
                text_of(points)
            self.assertEqual(caught.exception.thing, 37)
        with self.assertRaises(BadThing) as caught:
            text_of([97, None, 37])
        self.assertIs(caught.exception.thing, None)

    def test_arguments_stay(self):
        points = [97, 769, 128512]
        text_of(points)
        self.assertEqual(points, [97, 769, 128512])
        wrong = [97, [1], 98]
        self.assertRaises(BadThing, text_of, wrong)
        self.assertEqual(wrong, [97, [1], 98])

    def test_equal_answers(self):
        self.assertEqual(text_of([97, 98]), text_of((97, 98)))
        self.assertEqual(points_of("ab"), points_of("ab"))


class FiguresTest(unittest.TestCase):
    def test_point_text(self):
        cases = (
            (0, "U+0000"), (9, "U+0009"), (10, "U+000A"), (233, "U+00E9"), (0xABC, "U+0ABC"), (0x1000, "U+1000"),
            (0xFFFF, "U+FFFF"), (0x10000, "U+10000"), (128512, "U+1F600"), (1114111, "U+10FFFF"),
        )
        for point, text in cases:
            self.assertEqual(point_text(point), text)

    def test_point_by_one_to_six_figures(self):
        cases = (
            ("A", 10), ("0", 0), ("E9", 233), ("0E9", 233), ("00E9", 233), ("1F600", 128512), ("01F600", 128512),
            ("10FFFF", 1114111), ("D7FF", 55295), ("E000", 57344), ("000000", 0), ("FFF", 4095),
        )
        for figures, point in cases:
            self.assertEqual(point_by(figures), point, figures)

    def test_point_by_none(self):
        for figures in ("", "0000000", "00000E9", "0010FFFF", "e9", "1f600", "1f600"[:2], "G", "-1", "+1", " 1", "1 ",
                        "1_0", "0x1", "U+0041", "1.0", "\u0661", "\uff11"):
            self.assertIsNone(point_by(figures), figures)

    def test_point_by_numbers_that_are_no_points(self):
        for figures in ("D800", "DFFF", "00D800", "DABC", "110000", "FFFFFF"):
            self.assertIsNone(point_by(figures), figures)

    def test_there_and_back(self):
        for point in (0, 97, 55295, 57344, 65535, 65536, 1048575, 1048576, 1114111):
            self.assertEqual(point_by(point_text(point)[2:]), point)


if __name__ == "__main__":
    unittest.main()
