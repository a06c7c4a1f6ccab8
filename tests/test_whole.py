"""What holds over the whole program [1], [2]: ways of cutting that agree, and arguments that stay."""

import copy
import random
import unittest

from editing import do, edit_by
from making import light_tables, text_by, texts_of

from cutsanywhere.cursors import Cursor
from cutsanywhere.cutting import Cutter, cuts_of, plain_verdicts, units_of, verdicts_of
from cutsanywhere.errors import BadThing, TooMany
from cutsanywhere.indexes import Index
from cutsanywhere.rolls import Roll
from cutsanywhere.sessions import read_commands, run_session
from cutsanywhere.streams import Stream
from cutsanywhere.sums import sum_of
from cutsanywhere.tables import verdict_at
from cutsanywhere.windows import by_windows, windows

ONE = "class a 'a'\nkeep a | a\nelse may"


def pieces_by(chance, text):
    """The pieces of a text that is parted by chance, empty ones among them."""
    places = sorted([0, len(text), *(chance.randrange(len(text) + 1) for _ in range(3))])
    return [text[first:last] for first, last in zip(places, places[1:])]


def by_stream(chance, table, text):
    stream, told = Stream(table), []
    for piece in pieces_by(chance, text):
        told += stream.feed(piece)
    told += stream.end()
    assert sorted(at for at, _ in told) == list(range(len(text) + 1))
    return tuple(verdict for _, verdict in sorted(told))


def by_roll(chance, table, text):
    """The verdicts of a roll that was brought to this text by edits, some of them taken back."""
    roll = Roll(table, text_by(chance, table, chance.randrange(6)))
    for _ in range(6):
        do(roll, edit_by(chance, table, roll.size()))
        if chance.random() < 0.3:
            roll.undo()
    roll.put(chance.randrange(roll.size() + 1), text)
    at = roll.text().find(text)
    with roll.together():
        roll.take(at + len(text), roll.size() - at - len(text))
        roll.take(0, at)
    roll.put(0, text)
    roll.undo()
    assert roll.text() == text
    return roll.verdicts()


def windows_of(table):
    try:
        return windows(table)
    except (BadThing, TooMany):
        return None


class AgreeTest(unittest.TestCase):
    def check(self, chance, table, found, text):
        row = table.classes.row_of(text)
        verdicts = tuple(verdict_at(table, row[:at], row[at:]) for at in range(len(row) + 1))
        cuts = tuple(at for at in range(1, len(text)) if verdicts[at] != "keep")
        for told in (verdicts_of(table, text), plain_verdicts(table, text), Cutter(table)(text), by_stream(chance, table, text),
                     by_roll(chance, table, text)):
            self.assertEqual(told, verdicts)
        if found is not None:
            self.assertEqual(by_windows(found, row), verdicts)
        self.assertEqual(cuts_of(table, text), cuts)
        units = units_of(table, text)
        total = sum_of(table, "")
        for piece in pieces_by(chance, text):
            total = total + sum_of(table, piece)
        self.assertEqual(total.told(), (len(cuts), max([len(unit) for unit in units], default=0)))
        index = Index(table, text)
        self.assertEqual(tuple(index.nth(number) for number in range(index.count())), cuts)
        cursor, places = Cursor(Roll(table, text)), []
        while cursor.where() < len(text):
            cursor.right()
            places.append(cursor.where())
        self.assertEqual(places, [*cuts, len(text)] if text else [])

    def test_all_ways_of_cutting(self):
        chance, with_windows = random.Random(301), 0
        for table in light_tables(302, 25):
            found = windows_of(table)
            with_windows += found is not None
            for text in [*texts_of(table, 2), *(text_by(chance, table, size) for size in (3, 4, 6, 9, 17, 40))]:
                self.check(chance, table, found, text)
        self.assertGreater(with_windows, 8)


class ArgumentTest(unittest.TestCase):
    """Calls with arguments that could be changed: they stay, and the same call tells the same again."""

    def check(self, call, *told):
        before = copy.deepcopy(told)
        one = call(*told)
        self.assertEqual(told, before)
        again = copy.deepcopy(one)
        if isinstance(one, list):
            one.append("x")
        if isinstance(one, dict):
            one["x"] = "y"
        self.assertEqual(call(*told), again)

    def test_edits(self):
        edits = [("put", 0, "x"), ("take", 0, 1), ("mark", "a", 0)]
        table = next(light_tables(303, 0))
        self.check(lambda told: Roll(table, "ab").do_all(told), edits)

    def test_commands(self):
        self.check(read_commands, "put a\nshow\n\nleft")
        self.check(run_session, ONE, "put aab\nshow\nleft\nwhere\ncuts")


if __name__ == "__main__":
    unittest.main()
