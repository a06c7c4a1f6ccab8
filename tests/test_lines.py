"""Setting lines [33], and the evidence for it [34]."""

import copy
import itertools
import random
import unittest

from editing import NO_INTEGERS, do, edit_by, thing_of
from making import light_tables, text_by

from cutsanywhere.cutting import plain_verdicts
from cutsanywhere.lines import heights_for, roll_lines, set_lines, shows_least
from cutsanywhere.rolls import Roll
from cutsanywhere.samples import line_text
from cutsanywhere.tablereader import read_table

SPACES = "class s ' '\nmay s | not s\nelse keep"
TEXT = "aaa bb cc ddddd"


class Told:
    """Places, lines and costs of a text, word for word as they are defined."""

    def __init__(self, table, widths, text, limit):
        self.verdicts, self.size, self.limit = plain_verdicts(table, text), len(text), limit
        self.cuts = [at for at in range(1, len(text)) if self.verdicts[at] != "keep"]
        self.places = sorted({0, *self.cuts, len(text)})
        self.widths = [widths[number] for number in table.classes.row_of(text)]

    def cost(self, first, last):
        """What a line between two places costs, None if there may be none."""
        within = [cut for cut in self.cuts if first < cut < last]
        width = sum(self.widths[first:last])
        if first >= last or any(self.verdicts[cut] == "must" for cut in within):
            return None
        if width > self.limit:
            return None if within else 10000 * (width - self.limit)
        if last == self.size or self.verdicts[last] == "must":
            return 0
        return (self.limit - width) ** 2

    def total(self, ends):
        """What lines that end so cost, None if there may be none."""
        costs = [self.cost(*pair) for pair in zip((0, *ends), ends)]
        return None if None in costs else sum(costs)

    def all_ways(self):
        """All (cost, ends) of the whole text."""
        if self.size == 0:
            return [(0, ())]
        middle, found = self.places[1:-1], []
        for size in range(len(middle) + 1):
            for ends in itertools.combinations(middle, size):
                ends = (*ends, self.size)
                if self.total(ends) is not None:
                    found.append((self.total(ends), ends))
        return found

    def heights(self):
        """The least cost of lines to each place, by all ways to it."""
        least = {}
        for size in range(len(self.places)):
            for ends in itertools.combinations(self.places[1:], size):
                cost = self.total(ends)
                if cost is not None:
                    place = ends[-1] if ends else 0
                    least[place] = min(cost, least.get(place, cost))
        return least

    def do_show(self, ends, heights):
        if type(ends) is not tuple or type(heights) is not dict:
            return False
        for end in ends:
            if type(end) is not int or end not in self.places:
                return False
        if self.total(ends) is None or (ends[-1] if ends else 0) != self.size:
            return False
        if any(type(height) is not int for height in heights.values()):
            return False
        if heights.get(0) != 0 or heights.get(self.size) != self.total(ends):
            return False
        for first, last in itertools.product(self.places, repeat=2):
            cost = self.cost(first, last)
            if cost is not None and first in heights and not (last in heights and heights[last] <= heights[first] + cost):
                return False
        return True


def cases(seed, many):
    """Tables, widths, short texts and limits by chance; the limit is often next to the width of a line."""
    chance = random.Random(seed)
    tables = [read_table(line_text()), read_table(SPACES), *light_tables(seed + 1, many)]
    for table in tables:
        for _ in range(12):
            text = text_by(chance, table, chance.randrange(10))
            widths = tuple(chance.choice((0, 1, 1, 2, 3, 100)) for _ in table.classes.names)
            limit = chance.choice((1, 2, 3, 4, 5, 7, 99, 100, 101, 1000))
            yield table, widths, text, limit


class SetTest(unittest.TestCase):
    def check(self, table, widths, text, limit):
        told = Told(table, widths, text, limit)
        ways = told.all_ways()
        cost, ends = set_lines(table, widths, text, limit)
        least = min(way[0] for way in ways)
        # Of equal ones the first line that is unlike ends farther: so the ends compare as greater.
        self.assertEqual((cost, ends), (least, max(way[1] for way in ways if way[0] == least)))
        self.assertIs(type(ends), tuple)
        heights = heights_for(table, widths, text, limit)
        self.assertIs(type(heights), dict)
        self.assertEqual(heights, told.heights())
        self.assertEqual(heights[len(text)], cost)
        self.assertIs(shows_least(table, widths, text, limit, ends, heights), True)
        self.assertEqual(roll_lines(Roll(table, text), widths, limit), (cost, ends))

    def test_against_all_ways(self):
        for told in cases(331, 25):
            self.check(*told)

    def test_all_texts_of_words(self):
        table = read_table(line_text())
        for size in range(6):
            for signs in itertools.product("a \n", repeat=size):
                for limit in (1, 2, 4):
                    self.check(table, (0, 1, 0, 1), "".join(signs), limit)
                    self.check(table, (1, 1, 1, 1), "".join(signs), limit)

    def test_of_equal_ones_the_first_lines_are_longest(self):
        table = read_table("else may")
        self.assertEqual(set_lines(table, (1,), "aaaa", 3), (0, (3, 4)))
        self.assertEqual(set_lines(table, (1,), "aaaaa", 3), (0, (3, 5)))
        self.assertEqual(set_lines(table, (1,), "aaaaaaa", 3), (0, (3, 6, 7)))
        self.assertEqual(set_lines(table, (0,), "aaa", 2), (0, (3,)))
        self.assertEqual(set_lines(read_table("else must"), (1,), "aaa", 9), (0, (1, 2, 3)))
        # Blanks without a width: lines that end ahead of the second one, or behind it, cost the same.
        blanks = read_table("class s ' '\nmay s | any\nelse keep")
        self.assertEqual(set_lines(blanks, (0, 1), "aa  bb", 3), (1, (4, 6)))
        self.assertEqual(set_lines(blanks, (0, 1), "aa   bb  cc", 3), (2, (5, 9, 11)))

    def test_equal_costs_told_apart(self):
        table, chance, seen = read_table("class a 'a'\nclass s ' '\nmay s | \nmay a | a\nelse keep"), random.Random(332), 0
        for _ in range(150):
            text = "".join(chance.choice("aa ") for _ in range(10))
            told = table, (1, chance.randrange(2), 1), text, chance.randrange(1, 7)
            ways = Told(*told).all_ways()
            least = min(way[0] for way in ways)
            same = [way[1] for way in ways if way[0] == least]
            seen += len(same) > 1
            ends = set_lines(*told)[1]
            for other in same:
                firsts = [(one, late) for one, late in zip(ends, other) if one != late][:1]
                self.assertTrue(other == ends or firsts[0][0] > firsts[0][1])
        self.assertGreater(seen, 20)

    def test_musts_within(self):
        table = read_table(line_text())
        self.assertEqual(set_lines(table, (1, 1, 1, 1), "a\nb\nc", 10), (0, (2, 4, 5)))
        self.assertEqual(set_lines(table, (1, 1, 1, 1), "\n\n\n", 10), (0, (1, 2, 3)))
        self.assertEqual(set_lines(table, (0, 1, 0, 1), "aa bb\ncc", 4), (1, (3, 6, 8)))
        self.assertEqual(set_lines(table, (0, 1, 0, 1), "aa bb\ncc", 5), (0, (6, 8)))

    def test_texts_without_a_cut(self):
        table = read_table(SPACES)
        self.assertEqual(set_lines(table, (1, 1), "aaaa", 4), (0, (4,)))
        self.assertEqual(set_lines(table, (1, 1), "aaaa", 3), (10000, (4,)))
        self.assertEqual(set_lines(table, (1, 100), "aaaa", 1), (3990000, (4,)))
        self.assertEqual(set_lines(table, (1, 0), "aaaa", 1), (0, (4,)))

    def test_lines_wider_than_the_limit(self):
        table = read_table(SPACES)
        self.assertEqual(set_lines(table, (1, 1), "aaaaaa b", 5), (20000, (7, 8)))
        self.assertEqual(set_lines(table, (1, 1), "b aaaaaa", 5), (9 + 10000, (2, 8)))
        # A line that is too wide has one unit, and costs so much at the text's end, and at a must, too.
        self.assertEqual(set_lines(read_table(line_text()), (0, 1, 0, 2), "aaa\nb", 5), (10000, (4, 5)))
        self.assertEqual(set_lines(read_table("else may"), (10,), "aaa", 9), (30000, (1, 2, 3)))

    def test_a_line_as_wide_as_the_limit(self):
        self.assertEqual(set_lines(read_table(SPACES), (1, 1), "aa bb cc", 3), (0, (3, 6, 8)))
        self.assertEqual(set_lines(read_table(SPACES), (1, 1), "aa bb cc", 4), (2, (3, 6, 8)))

    def test_the_empty_text(self):
        for table in light_tables(333, 5):
            widths = (1,) * len(table.classes.names)
            self.assertEqual(set_lines(table, widths, "", 5), (0, ()))
            self.assertEqual(heights_for(table, widths, "", 5), {0: 0})
            self.assertIs(shows_least(table, widths, "", 5, (), {0: 0}), True)
            self.assertIs(shows_least(table, widths, "", 5, (0,), {0: 0}), False)
            self.assertIs(shows_least(table, widths, "", 5, (), {}), False)

    def test_a_long_text(self):
        table, chance = read_table(SPACES), random.Random(334)
        text = " ".join("a" * chance.randrange(1, 9) for _ in range(300))
        cost, ends = set_lines(table, (1, 1), text, 40)
        heights = heights_for(table, (1, 1), text, 40)
        self.assertEqual((ends[-1], heights[len(text)]), (len(text), cost))
        self.assertIs(shows_least(table, (1, 1), text, 40, ends, heights), True)

    def test_the_example(self):
        table = read_table(SPACES)
        cost, ends = set_lines(table, (1, 1), TEXT, 6)
        self.assertEqual((cost, ends), (4, (4, 10, 15)))
        self.assertIs(shows_least(table, (1, 1), TEXT, 6, ends, heights_for(table, (1, 1), TEXT, 6)), True)

    def test_rolls_behind_edits(self):
        chance = random.Random(335)
        for table in [read_table(line_text()), read_table(SPACES), *light_tables(336, 6)]:
            roll = Roll(table, text_by(chance, table, 4))
            widths = tuple(chance.randrange(4) for _ in table.classes.names)
            for _ in range(8):
                do(roll, edit_by(chance, table, roll.size()))
                limit = chance.randrange(1, 9)
                self.assertEqual(roll_lines(roll, widths, limit), set_lines(table, widths, roll.text(), limit))


class ErrorTest(unittest.TestCase):
    WRONG_WIDTHS = (
        (), (1,), (1, 1, 1), [1, 1], (1, -1), (101, 1), (1, 10 ** 20), (1, True), (False, 1), (1, "1"), (1, None), (1, (1,)), (1, 1.0), None, 1,
        "11", {0: 1, 1: 1})
    WRONG_LIMITS = (0, -1, 1001, 10 ** 20, *NO_INTEGERS)

    def calls(self):
        table = read_table(SPACES)
        yield lambda widths, limit: set_lines(table, widths, TEXT, limit)
        yield lambda widths, limit: roll_lines(Roll(table, TEXT), widths, limit)
        yield lambda widths, limit: heights_for(table, widths, TEXT, limit)
        yield lambda widths, limit: shows_least(table, widths, TEXT, limit, (4, 10, 15), {0: 0})
        yield lambda widths, limit: set_lines(table, widths, "", limit)

    def test_widths(self):
        for call in self.calls():
            for widths in self.WRONG_WIDTHS:
                self.assertIs(thing_of(call, widths, 6), widths)
                for limit in self.WRONG_LIMITS:
                    self.assertIs(thing_of(call, widths, limit), widths)

    def test_limits(self):
        for call in self.calls():
            for limit in self.WRONG_LIMITS:
                self.assertIs(thing_of(call, (1, 1), limit), limit)
            for limit in (1, 1000):
                call((0, 100), limit)


class ShowsTest(unittest.TestCase):
    def check(self, table, widths, text, limit, ends, heights):
        told = shows_least(table, widths, text, limit, ends, heights)
        self.assertIs(told, Told(table, widths, text, limit).do_show(ends, heights), (text, ends, heights))
        return told

    def test_changed_ends_and_heights(self):
        chance, told = random.Random(337), []
        for table, widths, text, limit in cases(338, 8):
            _, ends = set_lines(table, widths, text, limit)
            heights = heights_for(table, widths, text, limit)
            for late in self.changed_ends(chance, text, ends):
                told.append(self.check(table, widths, text, limit, late, heights))
            for late in self.changed_heights(chance, heights):
                told.append(self.check(table, widths, text, limit, ends, late))
        self.assertGreater(told.count(True), 200)
        self.assertGreater(told.count(False), 1000)

    def changed_ends(self, chance, text, ends):
        at = chance.randrange(len(ends) + 1)
        yield ends[:at] + ends[at + 1:]
        yield ends[:at] + ends[max(at - 1, 0):]
        yield ends[::-1]
        yield (0, *ends)
        yield (*ends, len(text))
        yield ends[:-1]
        yield list(ends)
        yield None
        for end in (-1, len(text) + 1, None, True, "1", 1.0, (1,), [1], chance.randrange(len(text) + 1)):
            yield ends[:at] + (end,) + ends[at + 1:]
            yield ends[:at] + (end,) + ends[at:]

    def changed_heights(self, chance, heights):
        yield None
        yield list(heights.items())
        yield {}
        yield {**heights, 99: 5}
        yield {**heights, "x": 5}
        yield {**heights, 99: None}
        yield {place: height - 1 for place, height in heights.items()}
        yield {place: 0 for place in heights}
        for place in list(heights)[-3:] + [0]:
            yield {late: height for late, height in heights.items() if late != place}
            for height in (heights[place] - 1, heights[place] + 1, 0, None, True, False, "0", 0.0, chance.randrange(50)):
                yield {**heights, place: height}

    def test_a_height_may_be_too_little_within(self):
        table = read_table("else may")
        # Lower heights show it as well, as long as those behind them are low enough, too.
        heights = heights_for(table, (1,), "aaaa", 3)
        self.assertEqual(heights, {0: 0, 1: 4, 2: 1, 3: 0, 4: 0})
        self.assertIs(shows_least(table, (1,), "aaaa", 3, (3, 4), heights), True)
        self.assertIs(shows_least(table, (1,), "aaaa", 3, (3, 4), {**heights, 1: 0}), True)
        self.assertIs(shows_least(table, (1,), "aaaa", 3, (3, 4), {**heights, 1: -1}), False)
        self.assertIs(shows_least(table, (1,), "aaaa", 3, (3, 4), {**heights, 1: 5}), False)
        self.assertIs(shows_least(table, (1,), "aaaa", 3, (2, 4), heights), False)

    def test_lines_that_cost_more(self):
        table = read_table(SPACES)
        heights = heights_for(table, (1, 1), TEXT, 6)
        for ends in ((4, 7, 10, 15), (4, 10), (4, 15), (10, 15), (4, 9, 15), (15,), ()):
            self.assertIs(shows_least(table, (1, 1), TEXT, 6, ends, heights), False)
        # Heights as great as those lines cost do not show it, either.
        told = Told(table, (1, 1), TEXT, 6)
        late = {**heights, 7: told.total((4, 7)), 10: told.total((4, 7, 10)), 15: told.total((4, 7, 10, 15))}
        self.assertIs(shows_least(table, (1, 1), TEXT, 6, (4, 7, 10, 15), late), False)

    def test_what_is_told_can_be_changed(self):
        table = read_table(SPACES)
        heights = heights_for(table, (1, 1), TEXT, 6)
        before = copy.deepcopy(heights)
        heights.clear()
        self.assertEqual(heights_for(table, (1, 1), TEXT, 6), before)


if __name__ == "__main__":
    unittest.main()
