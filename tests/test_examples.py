"""The examples of the document's interface, word for word, one after the other.

>>> from cutsanywhere.signs import point_by, point_text, points_of, text_of
>>> points_of(text_of([97, 769, 128512])), point_text(233), point_by("1F600"), point_by("D800")
((97, 769, 128512), 'U+00E9', 128512, None)

>>> from cutsanywhere.ranges import less, meet, ranges_of, size, union
>>> ranges_of([(4, 6), (1, 3), (9, 9)]), union(((1, 2),), ((3, 5),)), meet(((1, 9),), ((0, 2), (8, 20))), less(((1, 9),), ((3, 4),)), size(((55290, 55295), (57344, 57345)))
(((1, 6), (9, 9)), ((1, 5),), ((1, 2), (8, 9)), ((1, 2), (5, 9)), 8)

>>> from cutsanywhere.classes import Classes, common_classes
>>> classes = Classes([("vowel", ((97, 97), (101, 101))), ("letter", ((97, 122),))])
>>> classes.names, classes.ranges[1], classes.row_of("bad!"), classes["e"], classes.first_point(2)
(('vowel', 'letter', 'other'), ((98, 100), (102, 122)), (1, 0, 1, 2), 0, 0)
>>> common_classes(classes, Classes([("a", ((97, 98),))]))
((0, 0), (0, 1), (1, 0), (1, 1), (2, 1))
"""

import doctest
import sys
import unittest


def load_tests(loader, tests, pattern):
    tests.addTests(doctest.DocTestSuite(sys.modules[__name__]))
    return tests


if __name__ == "__main__":
    unittest.main()
