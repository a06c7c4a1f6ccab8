"""Classes [5]."""

import unittest

from cutsanywhere.classes import Classes, are_same_maps, common_classes
from cutsanywhere.errors import BadTable
from cutsanywhere.ranges import ALL, has, is_ranges

A = ((97, 97),)
LETTERS = ((97, 122),)
OWN_WORDS = ("class", "keep", "may", "must", "hide", "else", "any", "not", "start", "end")


def small_map():
    return Classes([("vowel", ((97, 97), (101, 101))), ("letter", LETTERS)])


def full_map():
    return Classes((("low", ((0, 99),)), ("mid", ((50, 55295),)), ("high", ((57344, 1114111),))))


class MapTest(unittest.TestCase):
    def test_a_map_with_other(self):
        classes = small_map()
        self.assertEqual(classes.rows, (("vowel", ((97, 97), (101, 101))), ("letter", ((97, 122),))))
        self.assertIs(type(classes.rows), tuple)
        self.assertEqual(classes.names, ("vowel", "letter", "other"))
        self.assertEqual(classes.ranges, (
            ((97, 97), (101, 101)), ((98, 100), (102, 122)), ((0, 96), (123, 55295), (57344, 1114111))))
        self.assertEqual(classes.starts, (
            (0, 2), (97, 0), (98, 1), (101, 0), (102, 1), (123, 2), (57344, 2)))

    def test_a_map_whose_rows_have_all_characters(self):
        classes = full_map()
        self.assertEqual(classes.names, ("low", "mid", "high"))
        self.assertEqual(classes.ranges, (((0, 99),), ((100, 55295),), ((57344, 1114111),)))
        self.assertEqual(classes.starts, ((0, 0), (100, 1), (57344, 2)))
        self.assertEqual(classes.number_of("other"), -1)
        self.assertEqual(Classes([("all", ALL)]).names, ("all",))

    def test_a_map_without_rows(self):
        for rows in ((), []):
            classes = Classes(rows)
            self.assertEqual(classes.rows, ())
            self.assertEqual(classes.names, ("other",))
            self.assertEqual(classes.ranges, (ALL,))
            self.assertEqual(classes.starts, ((0, 0), (57344, 0)))
            self.assertEqual(classes.row_of("a\U0010ffff"), (0, 0))

    def test_one_character_left_to_other(self):
        classes = Classes([("most", ((0, 55295), (57344, 1114110)))])
        self.assertEqual(classes.names, ("most", "other"))
        self.assertEqual(classes.ranges[1], ((1114111, 1114111),))
        self.assertEqual(classes["\U0010ffff"], 1)
        self.assertEqual(classes["\U0010fffe"], 0)

    def test_rows_that_overlap(self):
        classes = Classes([("a", ((10, 20),)), ("b", ((15, 30),)), ("c", ((5, 40),))])
        self.assertEqual(classes.ranges, (
            ((10, 20),), ((21, 30),), ((5, 9), (31, 40)), ((0, 4), (41, 55295), (57344, 1114111))))
        self.assertEqual(classes.rows[1], ("b", ((15, 30),)))

    def test_every_character_by_its_first_row(self):
        for classes in (small_map(), full_map(), Classes([("a", ((55295, 55295), (57344, 57344)))])):
            for point in [*range(0, 300), 55294, 55295, 57344, 57345, 65536, 1114110, 1114111]:
                expected = [number for number, ranges in enumerate(classes.ranges) if has(ranges, point)]
                self.assertEqual([classes[chr(point)]], expected)
                rows = [number for number, row in enumerate(classes.rows) if has(row[1], point)]
                self.assertEqual(classes[chr(point)], rows[0] if rows else len(classes.rows))

    def test_starts_are_those_of_ranges(self):
        for classes in (small_map(), full_map(), Classes([])):
            told = [(first, number) for number, ranges in enumerate(classes.ranges) for first, _ in ranges]
            self.assertEqual(classes.starts, tuple(sorted(told)))
            for ranges in classes.ranges:
                self.assertTrue(is_ranges(ranges))

    def test_row_of(self):
        classes = small_map()
        self.assertEqual(classes.row_of("bad!"), (1, 0, 1, 2))
        self.assertEqual(classes.row_of(""), ())
        self.assertEqual(classes.row_of("aaa"), (0, 0, 0))
        self.assertEqual(classes.row_of("z\u20ace"), (1, 2, 0))

    def test_number_of(self):
        classes = small_map()
        self.assertEqual([classes.number_of(name) for name in ("vowel", "letter", "other")], [0, 1, 2])
        for name in ("vowe", "vowels", "", "class", "Vowel"):
            self.assertEqual(classes.number_of(name), -1)

    def test_first_point(self):
        self.assertEqual([small_map().first_point(number) for number in range(3)], [97, 98, 0])
        self.assertEqual([full_map().first_point(number) for number in range(3)], [0, 100, 57344])

    def test_arguments_stay(self):
        rows = [("vowel", A), ("letter", LETTERS)]
        classes = Classes(rows)
        self.assertEqual(rows, [("vowel", A), ("letter", LETTERS)])
        rows.append(("more", ((5, 5),)))
        rows[0] = None
        self.assertEqual(classes.rows, (("vowel", A), ("letter", LETTERS)))
        wrong = [("vowel", A), ["letter", LETTERS]]
        self.assertRaises(BadTable, Classes, wrong)
        self.assertEqual(wrong, [("vowel", A), ["letter", LETTERS]])

    def test_the_interface(self):
        for name in ("__init__", "__getitem__", "row_of", "number_of", "first_point"):
            self.assertIn(name, vars(Classes))


class WrongRowsTest(unittest.TestCase):
    def check(self, rows, name):
        for given in (list(rows), tuple(rows)):
            with self.assertRaises(BadTable) as caught:
                Classes(given)
            self.assertEqual(caught.exception.name, name)

    def test_no_such_pair(self):
        wrong = (
            None, 5, "ab", "row", (), ("a",), ("a", A, A), ["a", A], {"a": A}, (A, "a"), (None, A), (5, A), (b"a", A),
            (("a",), A), ("b", None), ("b", 5), ("b", [(97, 97)]), ("b", (97, 97)), ("b", ((98, 97),)),
            ("b", ((97, 98), (99, 99))), ("b", ((55295, 57344),)), ("b", ((True, 5),)), ("b", "ab"), ("b", ALL[::-1]),
        )
        for row in wrong:
            for rows in ((row,), (("x", ((5, 5),)), row), (row, ("x", ((5, 5),)))):
                self.assertRaises(BadTable, Classes, list(rows))
                self.assertRaises(BadTable, Classes, rows)

    def test_ranges_that_are_none(self):
        for ranges in (None, 5, [(97, 97)], ((98, 97),), ((97, 98), (99, 99)), ((0, 1114111),)):
            self.check([("x", ((5, 5),)), ("b", ranges)], "b")

    def test_an_empty_pair_of_ranges(self):
        self.check([("a", ())], "a")
        self.check([("b", A), ("a", ())], "a")

    def test_a_name_told_before(self):
        self.check([("a", A), ("b", ((98, 98),)), ("a", ((99, 99),))], "a")
        self.check([("a", A), ("a", A)], "a")

    def test_no_character_added(self):
        self.check([("a", LETTERS), ("b", ((98, 99),))], "b")
        self.check([("a", ((97, 100),)), ("b", ((101, 122),)), ("c", ((99, 103), (122, 122)))], "c")
        self.check([("a", ALL), ("b", ((0, 0),))], "b")

    def test_the_first_wrong_row_is_told(self):
        self.check([("a", A), ("b", A), ("c", ()), ("a", LETTERS)], "b")
        self.check([("a", A), ("c", ()), ("b", A)], "c")
        self.check([("a", A), ("a", LETTERS), None], "a")
        self.check([("a", A), ("b", ()), ("Wrong", LETTERS)], "b")

    def test_a_row_that_adds_one_character_is_right(self):
        classes = Classes([("a", ((97, 121),)), ("b", LETTERS)])
        self.assertEqual(classes.ranges[1], ((122, 122),))

    def test_names(self):
        for name in ("a", "z", "a0", "a_", "a_b", "x9_y", "classes", "keeper", "others", "a" * 30, "z" + "_0" * 14 + "9"):
            self.assertEqual(Classes([(name, A)]).names, (name, "other"))

    def test_words_that_are_no_names(self):
        wrong = ("", "A", "aB", "0a", "_a", "a-b", "a b", " a", "a\n", "a" * 31, "\u00e9", "a\u0661", "aa\u00e9", *OWN_WORDS,
                 "other")
        for name in wrong:
            self.check([(name, A)], name)
            self.check([("x", ((5, 5),)), (name, A), ("y", ())], name)


class TwoMapsTest(unittest.TestCase):
    def test_common_classes(self):
        one, other = small_map(), Classes([("a", ((97, 98),))])
        self.assertEqual(common_classes(one, other), ((0, 0), (0, 1), (1, 0), (1, 1), (2, 1)))
        self.assertEqual(common_classes(other, one), ((0, 0), (0, 1), (1, 0), (1, 1), (1, 2)))
        self.assertEqual(common_classes(one, one), ((0, 0), (1, 1), (2, 2)))
        self.assertEqual(common_classes(Classes([]), full_map()), ((0, 0), (0, 1), (0, 2)))

    def test_common_classes_by_every_character(self):
        maps = (small_map(), full_map(), Classes([]), Classes([("b", ((98, 101), (55295, 55295), (57344, 57344)))]),
                Classes([("last", ((1114111, 1114111),)), ("rest", ALL)]))
        points = [*range(0, 200), 55294, 55295, 57344, 57345, 1114110, 1114111]
        for one in maps:
            for other in maps:
                pairs = {(one[chr(point)], other[chr(point)]) for point in points}
                self.assertEqual(common_classes(one, other), tuple(sorted(pairs)))

    def test_same_maps(self):
        one = small_map()
        self.assertIs(are_same_maps(one, one), True)
        self.assertIs(are_same_maps(one, small_map()), True)
        told_otherwise = Classes((("vowel", ((97, 97), (101, 101))), ("letter", ((98, 100), (102, 122)))))
        self.assertNotEqual(one.rows, told_otherwise.rows)
        self.assertIs(are_same_maps(one, told_otherwise), True)
        self.assertIs(are_same_maps(told_otherwise, one), True)

    def test_unlike_maps(self):
        one = Classes([("a", A), ("b", ((98, 98),))])
        unlike = (
            Classes([("a", A), ("c", ((98, 98),))]),  # another name
            Classes([("b", ((98, 98),)), ("a", A)]),  # another order
            Classes([("a", A), ("b", ((98, 99),))]),  # other ranges
            Classes([("a", A)]),
            Classes([]),
            full_map(),
        )
        for other in unlike:
            self.assertIs(are_same_maps(one, other), False)
            self.assertIs(are_same_maps(other, one), False)
        self.assertIs(are_same_maps(Classes([("x", ALL)]), Classes([])), False)


if __name__ == "__main__":
    unittest.main()
