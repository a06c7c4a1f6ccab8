"""Streams [19]."""

import itertools
import random
import unittest

from making import letters_of, light_tables, rows_to_states, text_by, texts_of

from cutsanywhere.cutting import verdicts_of
from cutsanywhere.errors import BadThing
from cutsanywhere.forgetting import least_many
from cutsanywhere.streams import Stream
from cutsanywhere.tablereader import read_table
from cutsanywhere.tables import verdict_at

ONE = "class a 'a'\nkeep a | a\nelse may"
DOTS_AFTER = "class dot '.'\nkeep dot | dot (dot dot)* end\nelse may"


def rows_going_on(table):
    """Rows with which a text may go on: one for each state of what stands after."""
    rows = rows_to_states(table.automata().after, len(table.classes.names))
    return [row[::-1] for row in rows]


def ways_on(table, row, position, goings):
    """The verdicts at a position for all these ways of going on."""
    return {verdict_at(table, row[:position], row[position:] + going) for going in goings}


def partings(text):
    """All ways to part a text into pieces, and some with empty ones."""
    places = range(1, len(text))
    for many in range(len(text)):
        for cuts in itertools.combinations(places, many):
            ends = (0, *cuts, len(text))
            pieces = [text[first:last] for first, last in zip(ends, ends[1:])]
            yield pieces
            if many < 2:
                yield ["", *pieces, ""]
                yield [part for piece in pieces for part in (piece, "")]
    if not text:
        yield from ([], [""], ["", ""])


def short_texts(table, seed):
    chance = random.Random(seed)
    yield from texts_of(table, 2)
    for _ in range(3):
        yield text_by(chance, table, 4)


class FeedTest(unittest.TestCase):
    def check_parting(self, table, pieces, goings):
        stream = Stream(table)
        self.assertEqual((stream.waiting, stream.count), ((0,), 0))
        come, told, answers = "", [], {}
        for piece in pieces:
            answer = stream.feed(piece)
            come += piece
            row = table.classes.row_of(come)
            self.assertIs(type(answer), list)
            for pair in answer:
                self.assertEqual((type(pair), len(pair)), (tuple, 2))
            self.assertEqual([position for position, _ in answer], sorted(position for position, _ in answer))
            told += answer
            for position in range(len(come) + 1):
                if (position, len(come)) not in answers:
                    answers[position, len(come)] = ways_on(table, row, position, goings)
            decided = [
                (position, min(answers[position, len(come)])) for position in range(len(come) + 1)
                if len(answers[position, len(come)]) == 1]
            self.assertEqual(sorted(told), decided)
            self.assertEqual(stream.count, len(come))
            self.assertIs(type(stream.waiting), tuple)
            self.assertEqual(stream.waiting, tuple(
                position for position in range(len(come) + 1) if position not in dict(told)))
        rest = stream.end()
        self.assertIs(type(rest), list)
        self.assertEqual(rest, [(at, verdict) for at, verdict in enumerate(verdicts_of(table, come)) if at not in dict(told)])
        self.assertEqual(sorted(told + rest), list(enumerate(verdicts_of(table, come))))
        self.assertEqual((stream.waiting, stream.count), ((), len(come)))

    def test_just_what_is_decided(self):
        for table in light_tables(191, 15):
            goings = rows_going_on(table)
            for text in short_texts(table, 192):
                for pieces in partings(text):
                    self.check_parting(table, pieces, goings)

    def test_against_all_ways_of_going_on_up_to_some_length(self):
        for table in light_tables(193, 10):
            letters = letters_of(table)[::2]
            endings = ["".join(told) for size in range(4) for told in itertools.product(letters, repeat=size)]
            for text in texts_of(table, 2):
                stream = Stream(table)
                told = dict(stream.feed(text))
                for position in range(len(text) + 1):
                    seen = {verdicts_of(table, text + ending)[position] for ending in endings}
                    if position in told:
                        self.assertEqual(seen, {told[position]})
                    elif len(seen) == 1:
                        # Longer ways are needed for two verdicts: two_ways tells them.
                        self.assertTrue(any(len(row) > 3 for row in stream.two_ways(position)))

    def test_empty_pieces(self):
        stream = Stream(read_table("class a 'a'\nkeep a | a\nelse may"))
        self.assertEqual((stream.waiting, stream.count), ((0,), 0))
        self.assertEqual(stream.feed(""), [(0, "may")])
        self.assertEqual((stream.waiting, stream.count), ((), 0))
        self.assertEqual(stream.feed(""), [])
        self.assertEqual(stream.end(), [])
        stream = Stream(read_table("class a 'a'\nkeep | a\nelse may"))
        self.assertEqual(stream.feed(""), [])
        self.assertEqual(stream.waiting, (0,))
        self.assertEqual(stream.feed("b"), [(0, "may")])
        self.assertEqual(stream.waiting, (1,))
        self.assertEqual(stream.feed(""), [])
        self.assertEqual(stream.end(), [(1, "may")])

    def test_at_first_position_0_is_waiting(self):
        for text in (ONE, "else may", DOTS_AFTER):
            stream = Stream(read_table(text))
            self.assertEqual((stream.waiting, stream.count), ((0,), 0))

    def test_an_end_at_once(self):
        for table in light_tables(194, 10):
            stream = Stream(table)
            self.assertEqual(stream.end(), [(0, verdict_at(table, (), ()))])
            self.assertEqual((stream.waiting, stream.count), ((), 0))

    def test_the_example(self):
        stream = Stream(read_table(ONE))
        self.assertEqual(stream.feed("ba"), [(0, "may"), (1, "may")])
        self.assertEqual(stream.waiting, (2,))
        self.assertEqual(stream.feed("a"), [(2, "keep")])
        self.assertEqual(stream.end(), [(3, "may")])

    def test_positions_that_wait_long(self):
        table = read_table(DOTS_AFTER)
        stream = Stream(table)
        self.assertEqual(stream.feed("." * 9), [(0, "may")])
        self.assertEqual(stream.waiting, tuple(range(1, 10)))
        self.assertEqual(stream.feed("a" + "." * 4), [(position, "may") for position in range(1, 11)])
        self.assertEqual(stream.waiting, (11, 12, 13, 14))
        self.assertEqual(stream.end(), [(11, "keep"), (12, "may"), (13, "keep"), (14, "may")])

    def test_long_texts(self):
        chance = random.Random(195)
        for table in light_tables(196, 10):
            text = text_by(chance, table, 300)
            stream, told, at = Stream(table), [], 0
            while at < len(text):
                size = chance.randrange(9)
                told += stream.feed(text[at:at + size])
                at += size
                self.assertEqual(len(told) + len(stream.waiting), stream.count + 1)
            self.assertEqual(sorted(told + stream.end()), list(enumerate(verdicts_of(table, text))))

    def test_at_most_so_many_wait(self):
        chance = random.Random(197)
        for table in light_tables(198, 20):
            many = least_many(table, "after")
            if many is not None:
                stream = Stream(table)
                for _ in range(30):
                    stream.feed(text_by(chance, table, 1))
                    self.assertLessEqual(len(stream.waiting), many)

    def test_two_streams_of_one_table_do_not_meet(self):
        table = read_table(DOTS_AFTER)
        one, other = Stream(table), Stream(table)
        one.feed("...")
        self.assertEqual((other.waiting, other.count), ((0,), 0))
        self.assertEqual(other.feed("a."), [(0, "may"), (1, "may")])
        self.assertEqual(one.end(), [(1, "may"), (2, "keep"), (3, "may")])
        self.assertEqual(other.end(), [(2, "may")])

    def test_answers_that_are_changed_change_nothing(self):
        stream = Stream(read_table(ONE))
        stream.feed("ba").clear()
        self.assertEqual(stream.feed("a"), [(2, "keep")])


class TwoWaysTest(unittest.TestCase):
    def test_both_ways_to_the_end(self):
        asked = 0
        for table in light_tables(199, 20):
            for text in short_texts(table, 200):
                stream = Stream(table)
                stream.feed(text)
                row = table.classes.row_of(text)
                for position in stream.waiting:
                    asked += 1
                    ways = stream.two_ways(position)
                    self.assertEqual((len(ways), [type(way) for way in ways]), (2, [tuple, tuple]))
                    told = [verdict_at(table, row[:position], row[position:] + way) for way in ways]
                    self.assertNotEqual(*told)
                    for way in ways:
                        late = Stream(table)
                        late.feed(text)
                        ending = "".join(chr(table.classes.first_point(number)) for number in way)
                        rest = dict(late.feed(ending) + late.end())
                        self.assertEqual(rest[position], told[ways.index(way)])
        self.assertGreater(asked, 200)

    def test_piece_by_piece(self):
        table = read_table(DOTS_AFTER)
        stream = Stream(table)
        for many in range(1, 8):
            stream.feed(".")
            for position in stream.waiting:
                one, other = stream.two_ways(position)
                before, after = (0,) * position, (0,) * (many - position)
                self.assertNotEqual(verdict_at(table, before, after + one), verdict_at(table, before, after + other))

    def test_asking_changes_nothing(self):
        stream = Stream(read_table(ONE))
        stream.feed("ba")
        self.assertEqual(stream.two_ways(2), stream.two_ways(2))
        self.assertEqual((stream.waiting, stream.count), ((2,), 2))
        self.assertEqual(stream.feed("a"), [(2, "keep")])

    def test_positions_that_are_not_waiting(self):
        stream = Stream(read_table(ONE))
        stream.feed("aba")
        self.assertEqual(stream.waiting, (3,))
        for position in (-1, 0, 1, 2, 4, 100, None, True, False, "3", (3,), [3], 3.0, {}):
            with self.assertRaises(BadThing) as caught:
                stream.two_ways(position)
            self.assertEqual(caught.exception.thing, position)
        self.assertEqual((stream.waiting, stream.count), ((3,), 3))
        self.assertEqual(stream.feed("a"), [(3, "keep")])

    def test_true_is_no_position(self):
        stream = Stream(read_table(ONE))
        stream.feed("a")
        self.assertEqual(stream.waiting, (1,))
        self.assertRaises(BadThing, stream.two_ways, True)
        stream.two_ways(1)

    def test_behind_the_end(self):
        stream = Stream(read_table(ONE))
        stream.feed("a")
        stream.end()
        for position in (0, 1, 2):
            self.assertRaises(BadThing, stream.two_ways, position)


class EndTest(unittest.TestCase):
    def test_nothing_behind_the_end(self):
        for table in light_tables(201, 5):
            stream = Stream(table)
            stream.feed("ab")
            stream.end()
            for text in ("", "a", "abc"):
                self.assertRaises(BadThing, stream.feed, text)
                self.assertEqual((stream.waiting, stream.count), ((), 2))
            self.assertRaises(BadThing, stream.end)
            self.assertEqual((stream.waiting, stream.count), ((), 2))

    def test_the_interface(self):
        for name in ("__init__", "feed", "end", "two_ways"):
            self.assertIn(name, vars(Stream))
        self.assertEqual(Stream(read_table(ONE)).count, 0)


if __name__ == "__main__":
    unittest.main()
