r"""The examples of the document's interface, word for word, one after the other.

>>> from cutsanywhere.signs import point_by, point_text, points_of, text_of
>>> points_of(text_of([97, 769, 128512])), point_text(233), point_by("1F600"), point_by("D800")
((97, 769, 128512), 'U+00E9', 128512, None)

>>> from cutsanywhere.ranges import less, meet, ranges_of, size, union
>>> ranges_of([(4, 6), (1, 3), (9, 9)]), union(((1, 2),), ((3, 5),)), meet(((1, 9),), ((0, 2), (8, 20))), less(((1, 9),), ((3, 4),)), size(((55290, 55295), (57344, 57345)))
(((1, 6), (9, 9)), ((1, 5),), ((1, 2), (8, 9)), ((1, 2), (5, 9)), 8)

>>> from cutsanywhere.classes import Classes, common_classes
>>> classes = Classes([("vowel", ((97, 97), (101, 101))), ("letter", ((97, 122),))])
>>> classes.names, classes.ranges[1], classes.row_of("bad!"), classes["e"], classes.first_point(2)
(('vowel', 'letter', 'other'), ((98, 100), (102, 122)), (1, 0, 1, 2), 0, 0)
>>> common_classes(classes, Classes([("a", ((97, 98),))]))
((0, 0), (0, 1), (1, 0), (1, 1), (2, 1))

>>> from cutsanywhere.patterns import does_match, is_pattern, items_of
>>> pattern = ("row", (("class", "vowel"), ("star", ("not", "vowel"))))
>>> items_of(pattern), is_pattern(("either", (pattern,))), [does_match(pattern, classes.names, classes.row_of(text)) for text in ("a", "abc", "aba", "")]
(2, False, [True, True, False, False])

>>> from cutsanywhere.tables import Table, is_light, rule_at, verdict_at
>>> anything, vowel = (False, ("row", ())), (False, ("class", "vowel"))
>>> table = Table(classes, [("hide", ("other",)), ("rule", "keep", vowel, vowel), ("rule", "must", anything, (True, ("class", "letter")))], "may")
>>> [verdict_at(table, classes.row_of(before), classes.row_of(after)) for before, after in (("a!", "e"), ("a", "b"), ("a", "be"), ("a!", "!b"))]
['keep', 'must', 'may', 'must']
>>> table.rules[1][3], rule_at(table, (), ()), is_light(table)
(('other',), None, True)

>>> from cutsanywhere.errors import BadText
>>> from cutsanywhere.tablereader import read_table
>>> read = read_table("class mark U+0300-U+036F\nkeep any | mark   # accents\nhide mark\nmay start (not mark)* | any end\nelse keep")
>>> read.lines[2], read.otherwise, read.classes.rows
(('rule', 'may', (True, ('star', ('not', 'mark'))), (True, ('any',))), 'keep', (('mark', ((768, 879),)),))

>>> from cutsanywhere.tablewriter import table_text
>>> read_table(table_text(read)).lines == read.lines
True
"""

import doctest
import pathlib
import sys
import unittest

README = pathlib.Path(__file__).resolve().parent.parent / "README.md"


def load_tests(loader, tests, pattern):
    tests.addTests(doctest.DocTestSuite(sys.modules[__name__]))
    tests.addTests(doctest.DocFileSuite(str(README), module_relative=False))
    return tests


if __name__ == "__main__":
    unittest.main()
