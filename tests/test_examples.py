r"""The examples of the document, at its head and in its interface, word for word, one after the other.

>>> from cutsanywhere.cutting import units_of
>>> from cutsanywhere.forgetting import reach
>>> from cutsanywhere.tablereader import read_table
>>> words = read_table("class letter 'a'-'z'\nclass quote U+0027\nkeep letter | letter\nkeep letter quote | letter\nkeep letter | quote letter\nelse may")
>>> units_of(words, "don't 'ask'"), reach(words)
(("don't", ' ', "'", 'ask', "'"), ('within', 2, 2))
>>> pairs = read_table("class dot '.'\nkeep start (dot dot)* dot | dot\nelse may")
>>> units_of(pairs, "....."), reach(pairs)[:2]
(('..', '..', '.'), ('beyond', 'before'))

>>> from cutsanywhere.signs import point_by, point_text, points_of, text_of
>>> points_of(text_of([97, 769, 128512])), point_text(233), point_by("1F600"), point_by("D800")
((97, 769, 128512), 'U+00E9', 128512, None)

>>> from cutsanywhere.ranges import less, meet, ranges_of, size, union
>>> ranges_of([(4, 6), (1, 3), (9, 9)]), union(((1, 2),), ((3, 5),)), meet(((1, 9),), ((0, 2), (8, 20))), less(((1, 9),), ((3, 4),)), size(((55290, 55295), (57344, 57345)))
(((1, 6), (9, 9)), ((1, 5),), ((1, 2), (8, 9)), ((1, 2), (5, 9)), 8)

>>> from cutsanywhere.classes import Classes, common_classes
>>> classes = Classes([("vowel", ((97, 97), (101, 101))), ("letter", ((97, 122),))])
>>> classes.names, classes.ranges[1], classes.row_of("bad!"), classes["e"], classes.first_point(2)
(('vowel', 'letter', 'other'), ((98, 100), (102, 122)), (1, 0, 1, 2), 0, 0)
>>> common_classes(classes, Classes([("a", ((97, 98),))]))
((0, 0), (0, 1), (1, 0), (1, 1), (2, 1))

>>> from cutsanywhere.patterns import does_match, is_pattern, items_of
>>> pattern = ("row", (("class", "vowel"), ("star", ("not", "vowel"))))
>>> items_of(pattern), is_pattern(("either", (pattern,))), [does_match(pattern, classes.names, classes.row_of(text)) for text in ("a", "abc", "aba", "")]
(2, False, [True, True, False, False])

>>> from cutsanywhere.tables import Table, is_light, rule_at, verdict_at
>>> anything, vowel = (False, ("row", ())), (False, ("class", "vowel"))
>>> table = Table(classes, [("hide", ("other",)), ("rule", "keep", vowel, vowel), ("rule", "must", anything, (True, ("class", "letter")))], "may")
>>> [verdict_at(table, classes.row_of(before), classes.row_of(after)) for before, after in (("a!", "e"), ("a", "b"), ("a", "be"), ("a!", "!b"))]
['keep', 'must', 'may', 'must']
>>> table.rules[1][3], rule_at(table, (), ()), is_light(table)
(('other',), None, True)

>>> from cutsanywhere.errors import BadText
>>> from cutsanywhere.tablereader import read_table
>>> read = read_table("class mark U+0300-U+036F\nkeep any | mark   # accents\nhide mark\nmay start (not mark)* | any end\nelse keep")
>>> read.lines[2], read.otherwise, read.classes.rows
(('rule', 'may', (True, ('star', ('not', 'mark'))), (True, ('any',))), 'keep', (('mark', ((768, 879),)),))

>>> from cutsanywhere.tablewriter import table_text
>>> read_table(table_text(read)).lines == read.lines
True

>>> from cutsanywhere.cutting import Cutter, cuts_of, units_of, verdicts_of
>>> verdicts_of(table, "ab!e"), cuts_of(table, "ab!e"), units_of(table, "ae!b")
(('may', 'may', 'may', 'may', 'may'), (1, 2, 3), ('ae', '!', 'b'))
>>> Cutter(table)("b") == verdicts_of(table, "b")
True

>>> from cutsanywhere.forgetting import least_many, ranks_of, reach, shows_beyond, shows_within
>>> two = read_table("class a 'a'\nkeep a any | a\nelse may")
>>> reach(two), least_many(table, "before"), shows_within(two, "before", 2, ranks_of(two, "before"))
(('within', 2, 1), None, True)
>>> word, side, evidence = reach(table)
>>> word, side, shows_beyond(table, side, evidence)
('beyond', 'before', True)

>>> from cutsanywhere.comparing import SAME, are_alike, compare, is_finer
>>> one = read_table("class a 'a'\nkeep a | a\nelse may")
>>> is_finer(two, one), compare(one, one, SAME)[0], compare(one, two, SAME)[0], are_alike(one, read_table("class a 'a'\nkeep a | a a*\nelse may"))
(False, 'always', 'not', True)

>>> from cutsanywhere.deciding import rule_place, slim
>>> twice = read_table("class a 'a'\nkeep a | a\nmust a | a\nelse may")
>>> rule_place(twice, 0), rule_place(twice, 1), len(slim(twice)[0].rules)
(('at', (0,), (0,)), ('never',), 1)

>>> from cutsanywhere.streams import Stream
>>> stream = Stream(one)
>>> stream.feed("ba"), stream.waiting, stream.feed("a"), stream.end()
([(0, 'may'), (1, 'may')], (2,), [(2, 'keep')], [(3, 'may')])

>>> from cutsanywhere.sums import sum_of
>>> (sum_of(one, "baa") + sum_of(one, "ab")).told(), sum_of(one, "baa").cell(0, 0), sum_of(one, "").told()
((2, 3), (1, 1, 2, 0), (0, 0))

>>> from cutsanywhere.resets import known_from, reset, shows_reset
>>> shows_reset(two, (1, 1)), known_from(two, "abab", 3), reset(read_table("class dot '.'\nkeep start (any any)* | any\nelse may"))[0]
(True, 1, 'never')

>>> from cutsanywhere.counting import how_many
>>> how_many(one, (1, 25), 2), sum(how_many(one, (1, 25), 3))
((0, 0, 1, 675), 17576)

>>> from cutsanywhere.windows import by_windows, windows
>>> found = windows(one)
>>> found[:2], found[2][((0,), (0,))], len(found[2]), by_windows(found, (0, 0, 1))
((1, 1), 'keep', 9, ('may', 'keep', 'may', 'may'))

>>> from cutsanywhere.rolls import Roll
>>> roll = Roll(one, "baab")
>>> roll.mark("here", 3)
>>> roll.put(2, "cc")
>>> roll.text(), roll.cuts(), roll.place("here"), roll.take(0, 3), roll.undo(), roll.undo(), roll.text(), roll.cuts(), roll.redo()
('baccab', (1, 2, 3, 4, 5), 5, 'bac', True, True, 'baab', (1, 3), True)

>>> from cutsanywhere.cursors import Cursor
>>> cursor = Cursor(Roll(one, "baab"))
>>> cursor.right(), cursor.right(), cursor.where(), cursor.erase(), cursor.roll.text(), cursor.where()
(None, None, 3, None, 'bb', 1)

>>> from cutsanywhere.sessions import run_session
>>> run_session("class a 'a'\nkeep a | a\nelse may", "put baab\nshow\nleft\nleft\nerase\nshow\nundo\nwhere\ncuts")
['b|aa|b', 'aa|b', '0', '1 3']

>>> from cutsanywhere.indexes import Index
>>> index = Index(one, "baab")
>>> index.count(), index.nth(1), index.before(2), index.before(4)
(2, 3, 1, 2)

>>> from cutsanywhere.changes import change_at, changed, composed, crossed, undone
>>> cake, tea = change_at("a cup", 2, 3, "cake"), change_at("a cup", 5, 0, " of tea")
>>> cake, crossed(cake, tea)[0], changed("a cup", composed(cake, crossed(cake, tea)[1]))
((('skip', 2), ('put', 'cake'), ('take', 'cup')), (('skip', 2), ('put', 'cake'), ('take', 'cup'), ('skip', 7)), 'a cake of tea')

>>> from cutsanywhere.shared import Meeting
>>> meeting = Meeting("a cup", 2)
>>> meeting.edit(0, 2, 3, "cake")
>>> meeting.edit(1, 5, 0, " of tea")
>>> meeting.come_up(1), [editor.text for editor in meeting.editors]
(True, ['a cake', 'a cup of tea'])
>>> meeting.settle() > 0, meeting.text, [editor.text for editor in meeting.editors], len(meeting.log)
(True, 'a cake of tea', ['a cake of tea', 'a cake of tea'], 2)

>>> from cutsanywhere.alignments import change_between, shows_most, units_kept
>>> from cutsanywhere.samples import word_text
>>> pairs, levels = units_kept(("a", " ", "cup"), ("a", " ", "big", " ", "cup"))
>>> len(pairs), pairs[0], len(levels), shows_most(("a", "b"), ("b", "a"), ((0, 1),), {(0, 1): 1, (1, 0): 1})
(3, (0, 0), 4, True)
>>> change_between(read_table(word_text()), "a cup of tea", "a cup of hot tea")[1][0], changed("tea", change_between(read_table(word_text()), "tea", "hot tea"))
('put', 'hot tea')

>>> from cutsanywhere.lines import heights_for, set_lines, shows_least
>>> spaces = read_table("class s ' '\nmay s | not s\nelse keep")
>>> cost, ends = set_lines(spaces, (1, 1), "aaa bb cc ddddd", 6)
>>> cost, ends, shows_least(spaces, (1, 1), "aaa bb cc ddddd", 6, ends, heights_for(spaces, (1, 1), "aaa bb cc ddddd", 6))
(4, (4, 10, 15), True)

>>> from cutsanywhere.samples import character_text
>>> units_of(read_table(word_text()), "don't ask 3.5"), [len(unit) for unit in units_of(read_table(character_text()), text_of([101, 769, 127462, 127463, 127464]))]
(("don't", ' ', 'ask', ' ', '3.5'), [2, 2, 1])
"""

import doctest
import pathlib
import sys
import unittest

README = pathlib.Path(__file__).resolve().parent.parent / "README.md"


def load_tests(loader, tests, pattern):
    tests.addTests(doctest.DocTestSuite(sys.modules[__name__]))
    tests.addTests(doctest.DocFileSuite(str(README), module_relative=False))
    return tests


if __name__ == "__main__":
    unittest.main()
