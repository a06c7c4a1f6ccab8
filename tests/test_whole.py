"""What holds over the whole program [1], [2], [38]."""

import copy
import importlib
import inspect
import random
import unittest

from editing import ONE, do, edit_by
from making import light_tables, text_by, texts_of

from cutsanywhere.alignments import change_between, shows_most, units_kept
from cutsanywhere.changes import change_at, changed, composed, crossed, in_form
from cutsanywhere.classes import Classes
from cutsanywhere.comparing import SAME
from cutsanywhere.counting import how_many
from cutsanywhere.cursors import Cursor
from cutsanywhere.cutting import Cutter, cuts_in, cuts_of, plain_verdicts, units_of, verdicts_of
from cutsanywhere.deciding import fitting, rule_place, slim
from cutsanywhere.errors import BadTable, BadText, BadThing, CutError, TooMany
from cutsanywhere.forgetting import least_many, ranks_of, reach, shows_beyond, shows_too_few, shows_within, too_few
from cutsanywhere.indexes import Index
from cutsanywhere.lines import heights_for, roll_lines, set_lines, shows_least
from cutsanywhere.patterns import names_in
from cutsanywhere.ranges import ALL, ranges_of
from cutsanywhere.resets import known_from, reset
from cutsanywhere.rolls import Roll
from cutsanywhere.samples import character_text, line_text, word_text
from cutsanywhere.sessions import read_commands, run_session
from cutsanywhere.shared import Meeting
from cutsanywhere.signs import text_of
from cutsanywhere.streams import Stream
from cutsanywhere.sums import sum_of
from cutsanywhere.tablereader import read_table
from cutsanywhere.tables import Table, verdict_at
from cutsanywhere.tablewriter import table_text
from cutsanywhere.windows import by_windows, windows

PAIRS = "class dot '.'\nkeep start (dot dot)* dot | dot\nelse may"
SIDES = ((False, ("class", "a")), (True, ("any",)))


def pieces_by(chance, text):
    """The pieces of a text that is parted by chance, empty ones among them."""
    places = sorted([0, len(text), *(chance.randrange(len(text) + 1) for _ in range(3))])
    return [text[first:last] for first, last in zip(places, places[1:])]


def by_stream(chance, table, text):
    stream, told = Stream(table), []
    for piece in pieces_by(chance, text):
        told += stream.feed(piece)
    told += stream.end()
    assert sorted(at for at, _ in told) == list(range(len(text) + 1))
    return tuple(verdict for _, verdict in sorted(told))


def by_roll(chance, table, text):
    """The verdicts of a roll that was brought to this text by edits, some of them taken back."""
    roll = Roll(table, text_by(chance, table, chance.randrange(6)))
    for _ in range(6):
        do(roll, edit_by(chance, table, roll.size()))
        if chance.random() < 0.3:
            roll.undo()
    roll.put(chance.randrange(roll.size() + 1), text)
    at = roll.text().find(text)
    with roll.together():
        roll.take(at + len(text), roll.size() - at - len(text))
        roll.take(0, at)
    roll.put(0, text)
    roll.undo()
    assert roll.text() == text
    return roll.verdicts()


def windows_of(table):
    try:
        return windows(table)
    except (BadThing, TooMany):
        return None


class AgreeTest(unittest.TestCase):
    def check(self, chance, table, found, text):
        row = table.classes.row_of(text)
        verdicts = tuple(verdict_at(table, row[:at], row[at:]) for at in range(len(row) + 1))
        cuts = tuple(at for at in range(1, len(text)) if verdicts[at] != "keep")
        for told in (verdicts_of(table, text), plain_verdicts(table, text), Cutter(table)(text), by_stream(chance, table, text),
                     by_roll(chance, table, text)):
            self.assertEqual(told, verdicts)
        if found is not None:
            self.assertEqual(by_windows(found, row), verdicts)
        self.assertEqual(cuts_of(table, text), cuts)
        units = units_of(table, text)
        total = sum_of(table, "")
        for piece in pieces_by(chance, text):
            total = total + sum_of(table, piece)
        self.assertEqual(total.told(), (len(cuts), max([len(unit) for unit in units], default=0)))
        index = Index(table, text)
        self.assertEqual(tuple(index.nth(number) for number in range(index.count())), cuts)
        cursor, places = Cursor(Roll(table, text)), []
        while cursor.where() < len(text):
            cursor.right()
            places.append(cursor.where())
        self.assertEqual(places, [*cuts, len(text)] if text else [])

    def test_all_ways_of_cutting(self):
        chance, with_windows = random.Random(301), 0
        samples = [read_table(text()) for text in (character_text, word_text, line_text)]
        for table in [*samples, *light_tables(302, 25)]:
            found = windows_of(table)
            with_windows += found is not None
            for text in [*texts_of(table, 2), *(text_by(chance, table, size) for size in (3, 4, 6, 9, 17, 40))]:
                self.check(chance, table, found, text)
        self.assertGreater(with_windows, 8)


class ToldTest(unittest.TestCase):
    """Calls that tell lists and dicts, or take some: what was told can be changed, and what was taken stays."""

    def check(self, call, *told):
        before = copy.deepcopy(told)
        one = call(*told)
        self.assertEqual(told, before)
        again = copy.deepcopy(one)
        self.spoil(one)
        self.assertEqual(told, before)
        self.assertEqual(call(*told), again)

    def spoil(self, thing):
        """Change all lists and dicts in a value."""
        if isinstance(thing, (tuple, list)):
            for part in thing:
                self.spoil(part)
        if isinstance(thing, list):
            thing.append("x")
        if isinstance(thing, dict):
            thing.clear()
            thing["x"] = "y"

    def test_lists_and_dicts_that_are_told(self):
        table, words = read_table(ONE), read_table(word_text())
        self.check(names_in, ("row", (("class", "a"), ("not", "b"))))
        self.check(read_commands, "put a\nshow\n\nleft")
        self.check(run_session, ONE, "put aab\nshow\nleft\nwhere\ncuts")
        self.check(units_kept, ("a", "b", "a"), ("b", "a"))
        for side in ("before", "after"):
            self.check(lambda told: ranks_of(table, told), side)
        self.check(lambda told: windows(table), ())
        self.check(lambda text: heights_for(words, (1,) * 7, text, 4), "a cup of tea")
        self.check(lambda text: self.fed(table, text), "baab")

    def fed(self, table, text):
        stream = Stream(table)
        return [stream.feed(text), stream.feed(""), stream.feed(text), stream.end()]

    def test_a_stream_goes_on_behind_lists_that_were_changed(self):
        stream = Stream(read_table(ONE))
        stream.feed("ba").clear()
        self.assertEqual((stream.waiting, stream.feed("a")), ((2,), [(2, "keep")]))

    def test_lists_and_dicts_that_are_taken(self):
        table, words = read_table(ONE), read_table(word_text())
        self.check(text_of, [97, 769])
        self.check(ranges_of, [(4, 6), (1, 3)])
        self.check(lambda rows: Classes(rows).rows, [("a", ((97, 97),)), ("b", ((98, 98),))])
        self.check(lambda lines: Table(table.classes, lines, "may").lines, [("hide", ("a",)), ("rule", "keep", *SIDES)])
        self.check(cuts_in, ["may", "keep", "must", "may"])
        self.check(lambda ranks: shows_within(table, "before", 1, ranks), ranks_of(table, "before"))
        self.check(lambda found: by_windows(found, (0, 0, 1)), windows(table))
        self.check(lambda edits: Roll(table, "ab").do_all(edits), [("put", 0, "x"), ("take", 0, 1), ("mark", "a", 0)])
        self.check(in_form, [("take", "x"), ("put", "a"), ("skip", 0), ("put", "b")])
        self.check(lambda levels: shows_most(("a",), ("a",), ((0, 0),), levels), {(0, 0): 1})
        self.check(lambda heights: shows_least(words, (1,) * 7, "a b", 9, (3,), heights), {0: 0, 1: 64, 2: 49, 3: 0})

    def test_what_was_taken_can_be_changed(self):
        rows, lines = [("a", ((97, 97),))], [("rule", "keep", *SIDES)]
        table = Table(Classes(rows), lines, "may")
        rows.append(1)
        lines.clear()
        self.assertEqual((table.classes.rows, table.lines, len(table.rules)), ((("a", ((97, 97),)),), (("rule", "keep", *SIDES),), 1))

    def test_tables_and_rolls_stay(self):
        for table in light_tables(304, 8):
            roll = Roll(table, "aab")
            roll.mark("a", 1)
            before = table_text(table), table.rules, roll.text(), roll.place("a")
            for call in (reach, fitting, slim, reset, automata_of, windows_of):
                call(table)
            widths = (1,) * len(table.classes.names)
            roll_lines(roll, widths, 2)
            cursor = Cursor(roll)
            cursor.right()
            how_many(table, widths, 3)
            change_between(table, "aab", "aba")
            sum_of(table, "ab") + sum_of(table, "ba")
            self.assertEqual((table_text(table), table.rules, roll.text(), roll.place("a")), before)
            self.assertEqual((roll.undo(), roll.undo()), (True, False))


def automata_of(table):
    return table.automata(), table.rule_automata()


class ErrorTest(unittest.TestCase):
    """Each error is raised as itself, and bears what its point says."""

    def check(self, kind, told, call, *things):
        with self.assertRaises(kind) as caught:
            call(*things)
        error = caught.exception
        self.assertIs(type(error), kind)
        self.assertTrue(isinstance(error, CutError) and isinstance(error, ValueError))
        for name, thing in told.items():
            self.assertEqual(getattr(error, name), thing)

    def test_errors(self):
        for kind in (BadText, BadTable, BadThing, TooMany):
            self.assertEqual(kind.__bases__, (CutError,))
        self.assertEqual(CutError.__bases__, (ValueError,))

    def test_bad_texts(self):
        self.check(BadText, {"line": 0, "column": 0}, read_table, None)
        self.check(BadText, {"line": 2, "column": 10}, read_table, "class a 'a'\nkeep a | b\nelse may")
        self.check(BadText, {"line": 0, "column": 0}, read_commands, None)
        self.check(BadText, {"line": 2, "column": 1}, read_commands, "show\nput")
        self.check(BadText, {"line": 1, "column": 5}, run_session, "else", "put")
        self.check(BadText, {"line": 1, "column": 1}, run_session, ONE, "put")

    def test_bad_tables(self):
        self.check(BadTable, {"name": "any"}, Classes, [("any", ((97, 97),))])
        self.check(BadTable, {"name": "b"}, Classes, [("a", ((97, 97),)), ("b", ((97, 97),))])
        self.check(BadTable, {"name": 0}, Table, Classes([]), [("hide", ())], "may")
        self.check(BadTable, {"name": 1}, Table, Classes([]), [("hide", ("other",))], "maybe")

    def test_bad_things(self):
        table, other, roll = read_table(ONE), read_table("else may"), Roll(read_table(ONE), "ab")
        stream = Stream(table)
        stream.feed("ba")
        for thing, call, *things in (
                (55296, text_of, [97, 55296]), ((2, 1), ranges_of, [(1, 2), (2, 1)]), ("left", least_many, table, "left"),
                ("left", ranks_of, table, "left"), ("left", too_few, table, "left"), ("left", shows_within, table, "left", 1, {}),
                ("left", shows_beyond, table, "left", ()), ("left", shows_too_few, table, "left", 0, ()), (1, rule_place, table, 1),
                (0, stream.two_ways, 0), (3, known_from, table, "ab", 3), ((1,), how_many, table, (1,), 41), (41, how_many, table, (1, 1), 41),
                ("before", windows, read_table(PAIRS)), (3, roll.put, 3, "x"), (3, roll.take, 0, 3), ("A", roll.mark, "A", 9), ("a", roll.place, "a"),
                (("x",), roll.do_all, [("put", 0, "x"), ("x",)]), ("put", Cursor(roll).do, "put"), (0, Index(table, "aa").nth, 0),
                (3, Index(table, "aa").before, 3), (3, change_at, "ab", 3, 9, ""), (9, change_at, "ab", 0, 9, ""), (9, Meeting, "", 9),
                (1, Meeting("", 1).edit, 1, 9, 0, ""), (1, Meeting("", 1).come_up, 1), (1, Meeting("", 1).come_down, 1),
                ((1,), set_lines, table, (1,), "a", 0), (0, set_lines, table, (1, 1), "a", 0), ((1,), roll_lines, roll, (1,), 0)):
            self.check(BadThing, {"thing": thing}, call, *things)
        stream.end()
        for call, *things in (
                (stream.feed, "a"), (stream.end,), (lambda: sum_of(table, "a") + sum_of(other, "a"),), (changed, "a", ()),
                (composed, (("skip", 1),), ()), (crossed, (("skip", 1),), ()), (crossed, (("take", "a"),), (("take", "b"),))):
            self.check(BadThing, {}, call, *things)
        self.assertEqual((roll.text(), roll.undo()), ("ab", False))

    def test_too_many(self):
        with self.assertRaises(TooMany) as caught:
            windows(read_table("class a 'a'\nkeep any any any any any any | any any any any any any\nelse may"))
        self.assertIs(type(caught.exception), TooMany)
        self.assertGreater(caught.exception.count, 5000)


# The interface, as the document lists it: for each file the names, with their parameters, and what classes have.
FUNCTIONS = {
    "signs": "is_point(thing) known_points() text_of(points) points_of(text) point_text(point) point_by(figures)",
    "ranges": "is_ranges(thing) ranges_of(pairs) union(a,b) meet(a,b) less(a,b) has(ranges,point) size(ranges)",
    "classes": "common_classes(one,other) are_same_maps(one,other)",
    "patterns": "is_pattern(thing) items_of(pattern) names_in(pattern) reversed_pattern(pattern) does_match(pattern,names,row)",
    "tables": "rule_at(table,before,after) verdict_at(table,before,after) is_light(table) are_light(one,other)",
    "tablereader": "read_table(text)",
    "tablewriter": "table_text(table) pattern_text(pattern)",
    "cutting": "verdicts_of(table,text) plain_verdicts(table,text) row_verdicts(automata,row) cuts_in(verdicts) cuts_of(table,text) "
               "units_of(table,text)",
    "forgetting": "least_many(table,side) reach(table) shows_beyond(table,side,evidence) ranks_of(table,side) "
                  "shows_within(table,side,many,ranks) too_few(table,side) shows_too_few(table,side,many,evidence)",
    "comparing": "finer_pairs() compare(one,other,allowed) are_alike(one,other) is_finer(one,other) "
                 "shows_always(one,other,allowed,befores,afters) shows_not(one,other,allowed,before,after) "
                 "verdicts_between(one,other,before,after)",
    "deciding": "rule_place(table,number) fitting(table) without_rule(table,number) slim(table)",
    "sums": "sum_of(table,text)",
    "resets": "reset(table) shows_reset(table,row) shows_never(table,pairs) known_from(table,text,position)",
    "counting": "how_many(table,weights,length)",
    "windows": "windows(table) by_windows(found,row)",
    "sessions": "read_commands(text) run_session(table_text,commands)",
    "changes": "is_change(thing) in_form(parts) changed(text,change) size_before(change) size_after(change) "
               "change_at(text,position,many,piece) undone(change) composed(one,other) moved_place(position,change) crossed(one,other)",
    "alignments": "units_kept(one,other) shows_most(one,other,pairs,levels) change_between(table,one,other)",
    "lines": "set_lines(table,widths,text,limit) roll_lines(roll,widths,limit) heights_for(table,widths,text,limit) "
             "shows_least(table,widths,text,limit,ends,heights)",
    "samples": "character_text() word_text() line_text()",
}
CLASSES = {
    "errors": {"CutError": "", "BadText": "(line,column)", "BadTable": "(name,why)", "BadThing": "(thing)", "TooMany": "(count)"},
    "classes": {"Classes": "(rows) row_of(text) number_of(name) first_point(number)"},
    "tables": {"Table": "(classes,lines,otherwise) automata() rule_automata()"},
    "cutting": {"Cutter": "(table) __call__(text)"},
    "streams": {"Stream": "(table) feed(text) end() two_ways(position)"},
    "rolls": {"Roll": "(table,text) text() size() verdicts() cuts() put(position,piece) take(position,many) mark(name,position) place(name) "
                      "undo() redo() together() do_all(edits)"},
    "cursors": {"Cursor": "(roll) where() words() do(word) enter(piece) left() right() home() last() erase() delete() undo() redo()"},
    "indexes": {"Index": "(table,text) count() nth(number) before(position)"},
    "shared": {"Meeting": "(text,many) edit(who,position,many,piece) come_up(who) come_down(who) under_way() settle()"},
}


class InterfaceTest(unittest.TestCase):
    def check(self, thing, told):
        self.assertEqual(",".join(inspect.signature(thing).parameters), told.rstrip(")"), thing)

    def test_functions(self):
        for file, told in FUNCTIONS.items():
            module = importlib.import_module(f"cutsanywhere.{file}")
            for one in told.split():
                name, parameters = one.split("(")
                thing = vars(module)[name]
                self.assertTrue(inspect.isfunction(thing))
                self.assertEqual(thing.__module__, f"cutsanywhere.{file}")
                self.check(thing, parameters)

    def test_classes(self):
        for file, classes in CLASSES.items():
            module = importlib.import_module(f"cutsanywhere.{file}")
            for name, told in classes.items():
                kind = vars(module)[name]
                self.assertTrue(inspect.isclass(kind))
                self.assertEqual(kind.__module__, f"cutsanywhere.{file}")
                for one in told.split():
                    word, parameters = one.split("(")
                    self.check_method(vars(kind)[word or "__init__"], parameters)

    def check_method(self, method, told):
        self.assertTrue(inspect.isfunction(method))
        self.assertEqual(",".join(list(inspect.signature(method).parameters)[1:]), told.rstrip(")"), method)

    def test_values(self):
        self.assertEqual(ALL, ((0, 55295), (57344, 1114111)))
        self.assertEqual(SAME, (("keep", "keep"), ("may", "may"), ("must", "must")))

    def test_attributes(self):
        table = read_table(ONE)
        for thing, names in (
                (table.classes, "rows names ranges starts"), (table, "classes lines otherwise rules"), (table.automata(), "before after verdicts"),
                (table.rule_automata(), "before after verdicts"), (Stream(table), "waiting count"), (sum_of(table, "a"), "size forward backward cells"),
                (Cursor(Roll(table, "")), "roll position"), (Index(table, ""), "size"), (Meeting("", 1), "text log editors"),
                (Meeting("", 1).editors[0], "text"), (BadText(1, 2), "line column"), (BadTable(1, 2), "name why"), (BadThing(1), "thing"),
                (TooMany(1), "count")):
            for name in names.split():
                self.assertIn(name, vars(thing))


if __name__ == "__main__":
    unittest.main()
