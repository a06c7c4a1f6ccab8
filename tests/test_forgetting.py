"""Reach [14] and its evidence [15]."""

import copy
import random
import unittest

from making import both_rows, light_tables, rows_of

from cutsanywhere.errors import BadThing
from cutsanywhere.forgetting import least_many, ranks_of, reach, shows_beyond, shows_too_few, shows_within, too_few
from cutsanywhere.tablereader import read_table
from cutsanywhere.tables import Table, verdict_at

SIDES = ("before", "after")
NO_SIDES = ("Before", "", "beside", None, True, 0, 1, ("before",), ["before"], b"before", {})
DOTS_BEFORE = "class dot '.'\nkeep start (dot dot)* dot | dot\nelse may"
DOTS_AFTER = "class dot '.'\nkeep dot | dot (dot dot)* end\nelse may"
DOTS_BOTH = "class dot '.'\nkeep start (dot dot)* dot | dot (dot dot)* end\nelse may"
TWO = "class a 'a'\nkeep a any | a\nelse may"
FLAT = "class a 'a'\nelse may"


def tables(many=25):
    yield from light_tables(141, many)


def ways_of(table, side):
    return getattr(table.automata(), side)


def pairs_of(table, side):
    many = len(ways_of(table, side))
    return [(x, y) for x in range(many) for y in range(x + 1, many)]


def verdict_by(table, side, near, far):
    """The verdict with a row on this side, and another one on the opposite side."""
    return table.automata().verdict(near, far) if side == "before" else table.automata().verdict(far, near)


def put_far(side, row, piece):
    """A piece with a row at that end of it which is farther from the position."""
    return row + piece if side == "before" else piece + row


def is_enough(table, side, many, rows):
    """Whether so many characters are enough, asked of these rows alone."""
    for piece in rows_of(len(table.classes.names), many):
        if len(piece) == many:
            for far in rows:
                if len({verdict_by(table, side, put_far(side, row, piece), far) for row in rows}) > 1:
                    return False
    return True


def longest_way(ways, pair, above=()):
    """The longest number of steps over pairs of unlike states, None if they go on for ever."""
    if pair in above:
        return None
    longest = 0
    for x, y in zip(ways[pair[0]], ways[pair[1]]):
        if x != y:
            behind = longest_way(ways, (min(x, y), max(x, y)), (*above, pair))
            if behind is None:
                return None
            longest = max(longest, behind + 1)
    return longest


def is_for_ever(table, side, evidence):
    """Whether the two verdicts are unlike for as many times of the piece as there are pairs of states, and more."""
    one, other, again, more, opposite = evidence
    for times in range(len(ways_of(table, side)) ** 2 + 2):
        piece = again * times + more if side == "before" else more + again * times
        told = [verdict_by(table, side, put_far(side, row, piece), opposite) for row in (one, other)]
        if told[0] == told[1]:
            return False
    return True


def are_unlike(table, side, evidence):
    one, other, piece, opposite = evidence
    told = [verdict_by(table, side, put_far(side, row, piece), opposite) for row in (one, other)]
    return told[0] != told[1]


class LeastTest(unittest.TestCase):
    def test_by_hand(self):
        for text, before, after in (
                (FLAT, 0, 0), (TWO, 2, 1), (DOTS_BEFORE, None, 1), (DOTS_AFTER, 1, None), (DOTS_BOTH, None, None),
                ("class a 'a'\nkeep | a any any end\nelse may", 0, 4), ("class a 'a'\nkeep start any | \nelse may", 2, 0),
                ("class a 'a'\nkeep start | end\nelse may", 1, 1), ("class a 'a'\nkeep a a | a\nelse may", 2, 1),
                ("class a 'a'\nhide a\nkeep other | other\nelse may", None, None),
                ("class a 'a'\nkeep a a* | any\nelse may", 1, 1), ("class a 'a'\nkeep any any any | \nelse may", 3, 0)):
            table = read_table(text)
            self.assertEqual((least_many(table, "before"), least_many(table, "after")), (before, after), text)

    def test_against_all_short_rows(self):
        seen = set()
        for table in tables(60):
            befores, afters = both_rows(table)
            # Some verdicts need longer rows than these to be unlike: rows to all states are among them, too.
            rows = [*rows_of(len(table.classes.names), 3), *befores, *afters]
            for side in SIDES:
                least = least_many(table, side)
                seen.add(least)
                if least is None:
                    for many in range(4):
                        self.assertFalse(is_enough(table, side, many, rows))
                elif least < 4:
                    self.assertTrue(is_enough(table, side, least, rows))
                    self.assertTrue(is_enough(table, side, least + 1, rows))
                if least:
                    self.assertFalse(is_enough(table, side, least - 1, rows))
        self.assertTrue({None, 0, 1, 2} <= seen, seen)

    def test_reach_tells_both_least_numbers(self):
        words = set()
        for table in tables(60):
            before, after = [least_many(table, side) for side in SIDES]
            told = reach(table)
            words.add(told[:1] if before is not None and after is not None else (told[1], before is None, after is None))
            self.assertIs(type(told), tuple)
            if before is None or after is None:
                self.assertEqual(told[:2], ("beyond", "before" if before is None else "after"))
                self.assertEqual(len(told), 3)
            else:
                self.assertEqual(told, ("within", before, after))
        self.assertEqual(words, {("within",), ("before", True, False), ("before", True, True), ("after", False, True)})

    def test_reach_by_hand(self):
        self.assertEqual(reach(read_table(TWO)), ("within", 2, 1))
        self.assertEqual(reach(read_table(DOTS_BEFORE))[:2], ("beyond", "before"))
        self.assertEqual(reach(read_table(DOTS_AFTER))[:2], ("beyond", "after"))
        self.assertEqual(reach(read_table(DOTS_BOTH))[:2], ("beyond", "before"))

    def test_the_numbers_decide_every_verdict(self):
        chance = random.Random(142)
        for table in tables():
            told = reach(table)
            if told[0] == "within":
                many = len(table.classes.names)
                for _ in range(30):
                    before, after = [tuple(chance.randrange(many) for _ in range(chance.randrange(9))) for _ in range(2)]
                    near = before[len(before) - min(len(before), told[1]):], after[:told[2]]
                    self.assertEqual(verdict_at(table, before, after), verdict_at(table, *near))

    def test_no_sides(self):
        table = read_table(TWO)
        for side in NO_SIDES:
            for asked in (lambda: least_many(table, side), lambda: ranks_of(table, side), lambda: too_few(table, side),
                          lambda: shows_beyond(table, side, None), lambda: shows_within(table, side, None, None),
                          lambda: shows_too_few(table, side, None, None), lambda: shows_within(table, side, 2, {})):
                with self.assertRaises(BadThing) as caught:
                    asked()
                self.assertEqual(caught.exception.thing, side)

    def test_equal_answers(self):
        for table in tables(5):
            again = Table(table.classes, table.lines, table.otherwise)
            self.assertEqual(reach(table), reach(again))
            for side in SIDES:
                self.assertEqual(least_many(table, side), least_many(again, side))
                self.assertEqual(ranks_of(table, side), ranks_of(again, side))
                self.assertEqual(too_few(table, side), too_few(again, side))


class BeyondTest(unittest.TestCase):
    def beyond(self):
        """Tables with a side on which no number is enough, and evidence of it: that of reach, also turned about."""
        for table in tables(40):
            told = reach(table)
            if told[0] == "beyond":
                yield table, told[1], told[2]

    def test_the_evidence_of_reach(self):
        sides = set()
        for table, side, evidence in self.beyond():
            sides.add(side)
            self.assertIs(type(evidence), tuple)
            self.assertEqual([type(row) for row in evidence], [tuple] * 5)
            self.assertTrue(evidence[2])
            self.assertTrue(shows_beyond(table, side, evidence))
            self.assertTrue(is_for_ever(table, side, evidence))
        self.assertEqual(sides, set(SIDES))

    def test_by_the_definition_of_verdicts(self):
        for table, side, (one, other, again, more, opposite) in self.beyond():
            for times in range(12):
                if side == "before":
                    told = [verdict_at(table, row + again * times + more, opposite) for row in (one, other)]
                else:
                    told = [verdict_at(table, opposite, more + again * times + row) for row in (one, other)]
                self.assertNotEqual(*told)

    def test_by_hand(self):
        table = read_table(DOTS_BEFORE)
        self.assertTrue(shows_beyond(table, "before", ((0,), (0, 0), (0,), (), (0,))))
        self.assertTrue(shows_beyond(table, "before", ((), (0,), (0,), (0,), (0,))))
        self.assertFalse(shows_beyond(table, "before", ((), (0, 0), (0,), (), (0,))))
        self.assertFalse(shows_beyond(table, "before", ((0,), (0, 0), (1,), (), (0,))))
        self.assertFalse(shows_beyond(table, "after", ((0,), (0, 0), (0,), (), (0,))))
        table = read_table(DOTS_AFTER)
        self.assertTrue(shows_beyond(table, "after", ((0,), (0, 0), (0,), (), (0,))))
        self.assertFalse(shows_beyond(table, "before", ((0,), (0, 0), (0,), (), (0,))))

    def test_the_order_of_rows_on_the_side_after(self):
        table = read_table("class a 'a'\nclass b 'b'\nkeep | a b* a end\nelse may")
        self.assertTrue(shows_beyond(table, "after", ((0,), (1,), (1,), (0,), ())))
        self.assertTrue(shows_beyond(table, "after", ((0,), (0, 0), (1,), (0, 1), ())))
        self.assertFalse(shows_beyond(table, "after", ((0,), (1,), (1,), (1, 0), ())))
        self.assertFalse(shows_beyond(table, "after", ((0,), (1,), (0, 1), (0,), ())))

    def test_unlike_at_first_only(self):
        table = read_table(TWO)
        for again in rows_of(2, 3):
            self.assertFalse(shows_beyond(table, "before", ((0,), (1,), again, (0,), (0,))))
        self.assertTrue(are_unlike(table, "before", ((0,), (1,), (0,), (0,))))

    def test_one_row_changed(self):
        for table, side, evidence in self.beyond():
            answers = set()
            for at in range(5):
                for row in rows_of(len(table.classes.names), 3):
                    changed = evidence[:at] + (row,) + evidence[at + 1:]
                    told = shows_beyond(table, side, changed)
                    answers.add(told)
                    self.assertEqual(told, bool(changed[2]) and is_for_ever(table, side, changed))
            self.assertEqual(answers, {True, False})

    def test_wrong_values(self):
        for table, side, evidence in self.beyond():
            one, other, again, more, opposite = evidence
            many = len(table.classes.names)
            wrong = [
                None, True, 5, "rows", (), [], {}, list(evidence), evidence[:4], evidence[1:], (*evidence, ()), (*evidence, opposite),
                (one, other, (), more, opposite), (one, one, again, more, opposite), (other, other, again, more, opposite),
            ]
            for at in range(5):
                row = evidence[at]
                for value in (None, True, 0, "", "ab", {}, list(row), row + (many,), (-1,) + row, row + (True,), row + (None,),
                              row + ("a",), row + ((0,),), row + ([],), row + (0.0,)):
                    wrong.append(evidence[:at] + (value,) + evidence[at + 1:])
            for value in wrong:
                self.assertIs(shows_beyond(table, side, value), False, value)

    def test_the_other_side(self):
        for table, side, evidence in self.beyond():
            opposite = "after" if side == "before" else "before"
            self.assertEqual(shows_beyond(table, opposite, evidence), is_for_ever(table, opposite, evidence))


class RanksTest(unittest.TestCase):
    def test_against_steps_followed_one_by_one(self):
        some_are_left_out = False
        for table in tables(40):
            for side in SIDES:
                ways = ways_of(table, side)
                longest = {pair: longest_way(ways, pair) for pair in pairs_of(table, side)}
                ranks = ranks_of(table, side)
                self.assertIs(type(ranks), dict)
                self.assertEqual(ranks, {pair: many for pair, many in longest.items() if many is not None})
                some_are_left_out = some_are_left_out or 0 < len(ranks) < len(longest)
        self.assertTrue(some_are_left_out)

    def test_one_state(self):
        self.assertEqual(ranks_of(read_table(FLAT), "before"), {})

    def test_answers_that_are_changed_change_nothing(self):
        table = read_table(TWO)
        ranks = ranks_of(table, "before")
        ranks.clear()
        self.assertNotEqual(ranks_of(table, "before"), {})
        self.assertTrue(shows_within(table, "before", 2, ranks_of(table, "before")))


class WithinTest(unittest.TestCase):
    def within(self):
        for table in tables(40):
            for side in SIDES:
                least = least_many(table, side)
                if least is not None:
                    yield table, side, least, ranks_of(table, side)

    def test_ranks_show_it_for_the_least_number(self):
        for table, side, least, ranks in self.within():
            self.assertTrue(shows_within(table, side, least, ranks))
            self.assertTrue(shows_within(table, side, least + 1, ranks))
            self.assertTrue(shows_within(table, side, least + 100, ranks))
            if least:
                self.assertFalse(shows_within(table, side, least - 1, ranks))
                self.assertFalse(shows_within(table, side, 0, ranks))
                self.assertFalse(shows_within(table, side, -1, ranks))

    def test_beyond_nothing_shows_it(self):
        for text, side in ((DOTS_BEFORE, "before"), (DOTS_AFTER, "after"), (DOTS_BOTH, "before"), (DOTS_BOTH, "after")):
            table = read_table(text)
            for rank in range(4):
                ranks = {pair: rank for pair in pairs_of(table, side)}
                self.assertFalse(shows_within(table, side, 10, ranks))
            self.assertFalse(shows_within(table, side, 10, ranks_of(table, side)))

    def is_shown(self, table, side, many, ranks):
        """The same by the words of the document."""
        ways = ways_of(table, side)
        for x, y in pairs_of(table, side):
            rank = ranks.get((x, y))
            if type(rank) is not int or not 0 <= rank <= many - 1:
                return False
            for one, other in zip(ways[x], ways[y]):
                if one != other and not rank > ranks.get((min(one, other), max(one, other)), rank):
                    return False
        return True

    def test_changed_ranks(self):
        chance = random.Random(143)
        for table, side, least, ranks in self.within():
            for pair in chance.sample(sorted(ranks), min(12, len(ranks))):
                without = {key: ranks[key] for key in ranks if key != pair}
                self.assertFalse(shows_within(table, side, least, without))
                for value in (ranks[pair] + 1, ranks[pair] - 1, -1, least, least - 1, least + 1, 0):
                    for many in (least, least + 1, least + 5):
                        changed = {**ranks, pair: value}
                        self.assertEqual(
                            shows_within(table, side, many, changed), self.is_shown(table, side, many, changed))
                for value in (None, True, False, "0", (0,), [], 1.0):
                    self.assertFalse(shows_within(table, side, least + 5, {**ranks, pair: value}))

    def test_ranks_one_too_great_or_too_small(self):
        table = read_table("class a 'a'\nkeep a any any | \nelse may")
        ranks = ranks_of(table, "before")
        least = least_many(table, "before")
        self.assertEqual(least, 3)
        self.assertEqual(set(ranks.values()), {0, 1, 2})
        for pair in ranks:
            if ranks[pair] == 2:
                self.assertFalse(shows_within(table, "before", least, {**ranks, pair: 3}))
                self.assertTrue(shows_within(table, "before", least + 1, {**ranks, pair: 3}))
            if ranks[pair] > 0:
                self.assertFalse(shows_within(table, "before", least + 5, {**ranks, pair: ranks[pair] - 1}))

    def test_more_pairs_do_no_harm(self):
        for table, side, least, ranks in self.within():
            for more in ((1, 0), (0, 0), (0, 1000), "x", None):
                self.assertTrue(shows_within(table, side, least, {**ranks, more: "x"}))

    def test_ranks_turned_about(self):
        table = read_table(TWO)
        ranks = {(y, x): rank for (x, y), rank in ranks_of(table, "before").items()}
        self.assertFalse(shows_within(table, "before", 2, ranks))

    def test_wrong_values(self):
        table = read_table(TWO)
        ranks = ranks_of(table, "before")
        for value in (None, True, 5, "x", [], (), list(ranks), tuple(ranks.items())):
            self.assertIs(shows_within(table, "before", 2, value), False)
        for many in (None, True, "2", (2,)):
            self.assertIs(shows_within(table, "before", many, ranks), False)
        self.assertFalse(shows_within(table, "before", 2, {}))
        self.assertTrue(shows_within(read_table(FLAT), "before", 0, {}))

    def test_arguments_stay(self):
        for table, side, least, ranks in self.within():
            before = dict(ranks)
            shows_within(table, side, least, ranks)
            self.assertEqual(ranks, before)


class TooFewTest(unittest.TestCase):
    def test_none_where_there_is_nothing_to_show(self):
        for table in tables(40):
            for side in SIDES:
                self.assertEqual(too_few(table, side) is None, least_many(table, side) in (None, 0))

    def shown(self):
        for table in tables(60):
            for side in SIDES:
                evidence = too_few(table, side)
                if evidence is not None:
                    yield table, side, least_many(table, side), evidence

    def test_evidence(self):
        numbers = set()
        for table, side, least, evidence in self.shown():
            numbers.add((side, min(least, 3)))
            self.assertIs(type(evidence), tuple)
            self.assertEqual([type(row) for row in evidence], [tuple] * 4)
            self.assertEqual(len(evidence[2]), least - 1)
            self.assertTrue(are_unlike(table, side, evidence))
            one, other, piece, opposite = evidence
            if side == "before":
                told = [verdict_at(table, row + piece, opposite) for row in (one, other)]
            else:
                told = [verdict_at(table, opposite, piece + row) for row in (one, other)]
            self.assertNotEqual(*told)
        self.assertTrue({(side, many) for side in SIDES for many in (1, 2, 3)} <= numbers, numbers)

    def test_shown_for_lesser_numbers_alone(self):
        for table, side, least, evidence in self.shown():
            for many in range(least):
                self.assertTrue(shows_too_few(table, side, many, evidence))
            for many in (least, least + 1, least + 10):
                self.assertFalse(shows_too_few(table, side, many, evidence))

    def test_changed_rows(self):
        for table, side, least, evidence in self.shown():
            for at in range(4):
                for row in rows_of(len(table.classes.names), 3):
                    changed = evidence[:at] + (row,) + evidence[at + 1:]
                    for many in {0, 1, least - 1, least, least + 1}:
                        self.assertEqual(
                            shows_too_few(table, side, many, changed),
                            len(changed[2]) >= many and are_unlike(table, side, changed))

    def test_a_longer_piece_than_it_takes(self):
        table = read_table(DOTS_BEFORE)
        for many in range(8):
            self.assertTrue(shows_too_few(table, "before", many, ((0,), (0, 0), (0,) * 8, (0,))))
        self.assertFalse(shows_too_few(table, "before", 9, ((0,), (0, 0), (0,) * 8, (0,))))

    def test_wrong_values(self):
        for table, side, least, evidence in self.shown():
            many = len(table.classes.names)
            wrong = [None, True, 5, "rows", (), [], list(evidence), evidence[:3], (*evidence, ())]
            for at in range(4):
                row = evidence[at]
                for value in (None, True, 0, "", list(row), row + (many,), (-1,) + row, row + (True,), row + ("a",), row + ([],)):
                    wrong.append(evidence[:at] + (value,) + evidence[at + 1:])
            for value in wrong:
                self.assertIs(shows_too_few(table, side, 0, value), False, value)
            for number in (None, True, "0", (0,)):
                self.assertIs(shows_too_few(table, side, number, evidence), False)


class ArgumentsTest(unittest.TestCase):
    def test_tables_stay(self):
        for table in tables(5):
            before = copy.deepcopy((table.classes.rows, table.lines, table.otherwise, table.rules))
            kinds = [(table.automata().before, table.automata().after, table.automata().verdicts)]
            reach(table)
            for side in SIDES:
                ranks_of(table, side)
                too_few(table, side)
            self.assertEqual(before, (table.classes.rows, table.lines, table.otherwise, table.rules))
            self.assertEqual(kinds, [(table.automata().before, table.automata().after, table.automata().verdicts)])


if __name__ == "__main__":
    unittest.main()
