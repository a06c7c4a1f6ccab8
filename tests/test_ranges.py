"""Ranges [4], against sets of numbers."""

import itertools
import unittest

from cutsanywhere.errors import BadThing
from cutsanywhere.ranges import ALL, has, is_ranges, less, meet, ranges_of, size, union

# Small worlds of code points, within which all ranges are tried: at both ends, and on both sides of the gap.
WORLDS = ((0, 1, 2, 3, 4), (55293, 55294, 55295, 57344, 57345, 57346), (1114108, 1114109, 1114110, 1114111))


def told(points):
    """The ranges of a set of code points, point by point."""
    stretches = []
    for point in sorted(points):
        if stretches and stretches[-1][1] + 1 == point:
            stretches[-1][1] = point
        else:
            stretches.append([point, point])
    return tuple(tuple(stretch) for stretch in stretches)


def sets_of(world):
    for many in range(len(world) + 1):
        yield from itertools.combinations(world, many)


class FormTest(unittest.TestCase):
    def test_all(self):
        self.assertEqual(ALL, ((0, 55295), (57344, 1114111)))
        self.assertTrue(is_ranges(ALL))
        self.assertEqual(size(ALL), 1114112 - 2048)

    def test_ranges(self):
        right = (
            (), ((0, 0),), ((5, 5),), ((1, 3), (5, 6)), ((0, 55295),), ((57344, 57344),), ((1114111, 1114111),),
            ((55295, 55295), (57344, 57344)), ((1, 2), (4, 4), (6, 9)), ((0, 55295), (57344, 1114111)),
        )
        for thing in right:
            self.assertIs(is_ranges(thing), True, thing)

    def test_things_of_other_kinds(self):
        wrong = (
            None, 5, "ab", [], [(1, 2)], {}, {(1, 2)}, (1, 2), ((1, 2), 5), ((1, 2), None), ([1, 2],), ((1,),),
            ((1, 2, 3),), ((),), (("a", "b"),), ("ab",), ((1, 2.0),), ((1.0, 2),), ((True, 2),), ((0, True),),
            ((None, 1),), ((1, None),),
        )
        for thing in wrong:
            self.assertIs(is_ranges(thing), False, thing)

    def test_numbers_that_are_no_points(self):
        for thing in (((-1, 2),), ((1, 1114112),), ((55296, 55297),), ((55295, 55296),), ((57343, 57344),),
                      ((56000, 56000),)):
            self.assertIs(is_ranges(thing), False, thing)

    def test_stretches_that_are_not_in_the_one_form(self):
        wrong = (
            ((2, 1),),  # turned round
            ((1, 3), (4, 6)),  # touch
            ((1, 3), (3, 6)),  # overlap
            ((1, 9), (3, 6)),  # one within the other
            ((1, 3), (1, 3)),  # twice
            ((5, 6), (1, 2)),  # descend
            ((1, 2), (4, 5), (6, 7)),  # touch later
            ((55290, 57350),),  # across the gap
            ((0, 1114111),),
            ((55295, 57344),),
            ((1, 2), (55000, 58000)),
        )
        for thing in wrong:
            self.assertIs(is_ranges(thing), False, thing)


class RangesOfTest(unittest.TestCase):
    def test_one_form(self):
        cases = (
            ([], ()),
            ((), ()),
            ([(1, 3), (4, 6)], ((1, 6),)),
            ([(4, 6), (1, 3)], ((1, 6),)),
            ([(1, 3), (5, 6)], ((1, 3), (5, 6))),
            ([(5, 6), (1, 3)], ((1, 3), (5, 6))),
            ([(1, 5), (3, 9)], ((1, 9),)),
            ([(1, 9), (3, 5)], ((1, 9),)),
            ([(1, 9), (3, 5), (10, 10)], ((1, 10),)),
            ([(3, 3), (3, 3)], ((3, 3),)),
            ([(7, 7), (5, 5), (6, 6), (9, 9)], ((5, 7), (9, 9))),
            ([(0, 1114111)], ALL),
            ([(55290, 57350)], ((55290, 55295), (57344, 57350))),
            ([(55295, 57344)], ((55295, 55295), (57344, 57344))),
            ([(55290, 55295), (57344, 57350)], ((55290, 55295), (57344, 57350))),
            ([(57344, 57350), (55200, 57344), (55100, 55199)], ((55100, 55295), (57344, 57350))),
            ([(55295, 57344), (0, 0), (1114111, 1114111)], ((0, 0), (55295, 55295), (57344, 57344), (1114111, 1114111))),
        )
        for pairs, ranges in cases:
            self.assertEqual(ranges_of(pairs), ranges)
            self.assertEqual(ranges_of(tuple(pairs)), ranges)
            self.assertTrue(is_ranges(ranges_of(pairs)))

    def test_against_sets(self):
        for world in WORLDS:
            pairs = [(a, b) for a in world for b in world if a <= b]
            for chosen in itertools.permutations(pairs, 2):
                points = {point for a, b in chosen for point in world if a <= point <= b}
                self.assertEqual(ranges_of(list(chosen)), told(points))

    def test_each_kind_of_wrong_value_at_each_place(self):
        wrong = (
            None, 5, "ab", [1, 2], (), (1,), (1, 2, 3), (2, 1), (1, 2.0), (1.0, 2), (True, 2), (0, True), (-1, 5),
            (5, 1114112), (55296, 57344), (55295, 57343), ("a", "b"), (1, None), ((1, 2), (3, 4)),
        )
        for thing in wrong:
            for at in range(3):
                pairs = [(1, 2), (8, 9)]
                pairs.insert(at, thing)
                for given in (pairs, tuple(pairs)):
                    with self.assertRaises(BadThing) as caught:
                        ranges_of(given)
                    self.assertIs(caught.exception.thing, thing)

    def test_the_first_wrong_value_is_told(self):
        for first, second in itertools.permutations(((9, 1), None, (1, -1), [1, 2], "x"), 2):
            with self.assertRaises(BadThing) as caught:
                ranges_of([(50, 60), first, (3, 4), second])
            self.assertIs(caught.exception.thing, first)

    def test_arguments_stay(self):
        pairs = [(5, 6), (1, 2), (55290, 57350)]
        ranges_of(pairs)
        self.assertEqual(pairs, [(5, 6), (1, 2), (55290, 57350)])
        wrong = [(5, 6), (1, 2), [3]]
        self.assertRaises(BadThing, ranges_of, wrong)
        self.assertEqual(wrong, [(5, 6), (1, 2), [3]])


class SetsTest(unittest.TestCase):
    def test_union_meet_less_has_size(self):
        for world in WORLDS:
            for one in sets_of(world):
                a = told(one)
                self.assertEqual(size(a), len(one))
                for point in world:
                    self.assertIs(has(a, point), point in one)
                for other in sets_of(world):
                    b = told(other)
                    self.assertEqual(union(a, b), told(set(one) | set(other)))
                    self.assertEqual(meet(a, b), told(set(one) & set(other)))
                    self.assertEqual(less(a, b), told(set(one) - set(other)))

    def test_with_all(self):
        for ranges in ((), ((0, 0),), ((5, 70),), ((55290, 55295), (57344, 57350)), ((1114111, 1114111),), ALL):
            self.assertEqual(union(ranges, ALL), ALL)
            self.assertEqual(meet(ranges, ALL), ranges)
            self.assertEqual(meet(ALL, ranges), ranges)
            self.assertEqual(less(ranges, ALL), ())
            rest = less(ALL, ranges)
            self.assertTrue(is_ranges(rest))
            self.assertEqual(meet(rest, ranges), ())
            self.assertEqual(union(rest, ranges), ALL)
            self.assertEqual(size(rest) + size(ranges), size(ALL))

    def test_the_gap_parts(self):
        below, above = ((55290, 55295),), ((57344, 57350),)
        self.assertEqual(union(below, above), ((55290, 55295), (57344, 57350)))
        self.assertEqual(less(ALL, ((55295, 55295), (57344, 57344))), ((0, 55294), (57345, 1114111)))
        self.assertEqual(less(ALL, ((0, 55295),)), ((57344, 1114111),))
        self.assertEqual(less(ALL, ((57344, 1114111),)), ((0, 55295),))
        self.assertEqual(size(below + above), 13)

    def test_has(self):
        for point in (0, 55295, 57344, 1114111):
            self.assertIs(has(ALL, point), True)
            self.assertIs(has((), point), False)
        ranges = ((10, 20), (30, 30))
        self.assertEqual([has(ranges, point) for point in (9, 10, 20, 21, 29, 30, 31)],
                         [False, True, True, False, False, True, False])


if __name__ == "__main__":
    unittest.main()
