"""Steps [25]: taken back, done again, and done together."""

import random
import unittest

from editing import NO_INTEGERS, ONE, WRONG_NAMES, do, edit_by, marks_of, rolled, thing_of
from making import light_tables, text_by

from cutsanywhere.errors import BadThing
from cutsanywhere.forgetting import reach
from cutsanywhere.rolls import Roll
from cutsanywhere.tablereader import read_table

NO_STEPS = (("put", 1, ""), ("take", 1, 0), ("mark", "a", 1))


def state(roll):
    return roll.text(), marks_of(roll)


def all_states(roll):
    """The states behind all undos, and behind all redos; then the roll is as it was."""
    now, backs, laters = state(roll), [], []
    while roll.undo():
        backs.append(state(roll))
    for _ in backs:
        roll.redo()
    assert state(roll) == now
    while roll.redo():
        laters.append(state(roll))
    for _ in laters:
        roll.undo()
    assert state(roll) == now
    return now, backs, laters


def edits_by(chance, table, roll, many):
    """So many edits by chance that can be done one after another."""
    edits, trial = [], Roll(table, roll.text())
    for _ in range(many):
        edits.append(edit_by(chance, table, trial.size()))
        do(trial, edits[-1])
    return edits


def roll_with_both():
    """A roll with two steps that can be taken back, and two that can be done again."""
    roll = rolled("abc", a=1)
    for edit in (("put", 3, "d"), ("take", 0, 1), ("mark", "b2", 2)):
        do(roll, edit)
    roll.undo()
    roll.undo()
    return roll


class UndoTest(unittest.TestCase):
    def test_drawn_histories(self):
        chance = random.Random(251)
        for table in light_tables(252, 15):
            roll = Roll(table, text_by(chance, table, chance.choice((0, 3, 8))))
            past, late = [], []
            for _ in range(60):
                now, act = state(roll), chance.choice(("undo", "redo", "undo", "redo", "edit", "edit", "edit", "together"))
                if act == "undo":
                    self.assertIs(roll.undo(), bool(past))
                    if past:
                        late.append(now)
                        now = past.pop()
                elif act == "redo":
                    self.assertIs(roll.redo(), bool(late))
                    if late:
                        past.append(now)
                        now = late.pop()
                else:
                    edits = edits_by(chance, table, roll, 1 if act == "edit" else chance.randrange(4))
                    if act == "edit":
                        do(roll, edits[0])
                    else:
                        roll.do_all(edits)
                    if edits:
                        past.append(now)
                        late = []
                    now = state(roll)
                self.assertEqual(state(roll), now)
                self.assertEqual(roll.verdicts(), Roll(table, roll.text()).verdicts())

    def test_none(self):
        roll = rolled("ab")
        self.assertIs(roll.undo(), False)
        self.assertIs(roll.redo(), False)
        roll.put(0, "x")
        self.assertIs(roll.redo(), False)
        self.assertIs(roll.undo(), True)
        self.assertIs(roll.undo(), False)
        self.assertIs(roll.redo(), True)
        self.assertIs(roll.redo(), False)
        self.assertEqual(roll.text(), "xab")

    def test_steps_that_change_nothing(self):
        for edit in NO_STEPS:
            roll = rolled("abc", a=1)
            roll.put(3, "d")
            do(roll, edit)
            self.assertIs(roll.undo(), True)
            self.assertEqual(state(roll), ("abcd", {"a": 1}))
            self.assertIs(roll.undo(), True)
            self.assertEqual(state(roll), ("abc", {"a": 1}))
            self.assertEqual((roll.redo(), roll.text(), roll.redo(), roll.redo()), (True, "abcd", True, False))

    def test_redo_behind_an_edit(self):
        for edit in (*NO_STEPS, ("put", 1, "x"), ("take", 0, 2), ("mark", "b2", 3)):
            roll = rolled("abc", a=1)
            roll.put(3, "d")
            roll.undo()
            do(roll, edit)
            before = state(roll)
            self.assertIs(roll.redo(), False)
            self.assertEqual(state(roll), before)

    def test_marks_that_a_take_put_together(self):
        roll = rolled("abcdef", a=2, b2=3, x_y=4)
        roll.take(1, 4)
        self.assertEqual(marks_of(roll), {"a": 1, "b2": 1, "x_y": 1})
        roll.undo()
        self.assertEqual(marks_of(roll), {"a": 2, "b2": 3, "x_y": 4})
        roll.redo()
        self.assertEqual(marks_of(roll), {"a": 1, "b2": 1, "x_y": 1})

    def test_a_mark_that_was_moved_goes_back(self):
        roll = rolled("abc", a=1)
        roll.mark("a", 3)
        roll.undo()
        self.assertEqual(roll.place("a"), 1)


class TogetherTest(unittest.TestCase):
    def test_the_value_is_the_roll(self):
        roll = rolled("ab")
        with roll.together() as held:
            self.assertIs(held, roll)

    def test_several_steps_are_one(self):
        roll = rolled("abc")
        with roll.together() as held:
            held.put(0, "x")
            self.assertEqual(roll.text(), "xabc")
            roll.mark("a", 2)
            self.assertEqual(held.take(3, 1), "c")
        self.assertEqual(state(roll), ("xab", {"a": 2}))
        self.assertIs(roll.undo(), True)
        self.assertEqual(state(roll), ("abc", {}))
        self.assertIs(roll.undo(), False)
        self.assertIs(roll.redo(), True)
        self.assertEqual(state(roll), ("xab", {"a": 2}))
        self.assertIs(roll.redo(), False)

    def test_steps_that_change_nothing_are_one(self):
        for many in (1, 2, 3):
            roll = rolled("abc", a=1)
            with roll.together():
                for edit in NO_STEPS[:many]:
                    do(roll, edit)
            self.assertEqual((roll.undo(), state(roll), roll.undo()), (True, ("abc", {"a": 1}), True))

    def test_none_within_is_no_step(self):
        roll = roll_with_both()
        before = all_states(roll)
        with roll.together():
            roll.text()
        self.assertEqual(all_states(roll), before)

    def test_steps_within_end_what_can_be_done_again(self):
        roll = roll_with_both()
        with roll.together():
            roll.put(0, "")
        self.assertIs(roll.redo(), False)
        self.assertEqual(len(all_states(roll)[1]), 3)

    def test_an_error_that_leaves_it(self):
        for edits in ((), (("put", 0, "x"),), (("take", 0, 2), ("mark", "a", 0), ("put", 1, "yy")), NO_STEPS):
            for error in (ValueError("x"), KeyError("y"), KeyboardInterrupt(), GeneratorExit()):
                roll = roll_with_both()
                before = all_states(roll)
                with self.assertRaises(type(error)) as caught:
                    with roll.together():
                        for edit in edits:
                            do(roll, edit)
                        raise error
                self.assertIs(caught.exception, error)
                self.assertEqual(all_states(roll), before)
                self.assertEqual(roll.verdicts(), Roll(roll.table, before[0][0]).verdicts())

    def test_an_error_of_an_edit_within(self):
        roll = roll_with_both()
        before = all_states(roll)
        with self.assertRaises(BadThing):
            with roll.together():
                roll.take(0, 2)
                roll.put(99, "x")
        self.assertEqual(all_states(roll), before)

    def test_an_error_that_does_not_leave_it(self):
        roll = rolled("abc")
        with roll.together():
            roll.put(0, "x")
            thing_of(roll.put, 99, "x")
            roll.put(0, "y")
        self.assertEqual((roll.text(), roll.undo(), roll.text()), ("yxabc", True, "abc"))

    def test_it_begins_where_the_with_statement_does(self):
        roll = rolled("abc")
        together = roll.together()
        roll.put(0, "x")
        with together:
            roll.put(0, "y")
        self.assertEqual((roll.undo(), roll.text(), roll.undo(), roll.text()), (True, "xabc", True, "abc"))

    def test_an_error_where_steps_were_done_ahead_of_the_with_statement(self):
        roll = roll_with_both()
        together = roll.together()
        roll.put(0, "x")
        before = all_states(roll)
        with self.assertRaises(KeyError):
            with together:
                roll.put(0, "y")
                raise KeyError
        self.assertEqual(all_states(roll), before)
        self.assertIs(roll.redo(), False)

    def test_one_behind_the_other(self):
        roll = rolled("")
        for piece in ("a", "b"):
            with roll.together():
                roll.put(0, piece)
                roll.put(0, piece)
        self.assertEqual((roll.undo(), roll.text(), roll.undo(), roll.text()), (True, "aa", True, ""))


class DoAllTest(unittest.TestCase):
    def test_lists_and_tuples(self):
        edits = [("put", 0, "xy"), ("take", 1, 2), ("mark", "a", 2)]
        for told in (edits, tuple(edits)):
            roll = rolled("abc")
            self.assertIsNone(roll.do_all(told))
            self.assertEqual(state(roll), ("xbc", {"a": 2}))
            self.assertEqual((roll.undo(), state(roll), roll.undo()), (True, ("abc", {}), False))
        self.assertEqual(edits, [("put", 0, "xy"), ("take", 1, 2), ("mark", "a", 2)])

    def test_each_form_alone(self):
        for edit, told in ((("put", 1, "x"), ("axbc", {})), (("take", 1, 2), ("a", {})), (("mark", "end", 3), ("abc", {"end": 3}))):
            roll = rolled("abc")
            roll.do_all([edit])
            self.assertEqual((state(roll), roll.undo(), state(roll)), (told, True, ("abc", {})))

    def test_empty_ones(self):
        for told in ([], ()):
            roll = roll_with_both()
            before = all_states(roll)
            roll.do_all(told)
            self.assertEqual(all_states(roll), before)

    def test_against_edits_one_by_one(self):
        chance = random.Random(253)
        for table in light_tables(254, 10):
            one, other = Roll(table, "abcab"), Roll(table, "abcab")
            edits = edits_by(chance, table, one, 6)
            one.do_all(edits)
            for edit in edits:
                do(other, edit)
            self.assertEqual((state(one), one.verdicts()), (state(other), other.verdicts()))

    def wrong(self):
        """Wrong edits for a text of 3 to 5 characters, and what the error bears."""
        for edit in (
                None, 1, True, "put", (), ("put",), ("put", 0), ("put", 0, "x", 1), ("take", 0), ("take", 0, 0, 0), ("mark", "a"),
                ("mark", "a", 0, 0), ["put", 0, "x"], ["take", 0, 0], ["mark", "a", 0], ("Put", 0, "x"), ("", 0, "x"), ("undo", 0, 0),
                (None, 0, 0), (["put"], 0, "x"), ("puts", 0, "x"), (("put", 0, "x"),), {"put": 1}, b"abc", "abc", ("put", 0, None), ("put", 0, 7),
                ("put", 0, b"x"), ("put", 0, ["x"]), ("put", 0, "\ud800"), ("put", 0, "x\udfff"), ("put", 99, "\udfff"), ("put", True, "\ud800")):
            yield edit, edit
        for position in (-1, 99, *NO_INTEGERS):
            yield ("put", position, "x"), position
            yield ("take", position, 99), position
            yield ("mark", "a", position), position
        for many in (-1, 99, *NO_INTEGERS):
            yield ("take", 0, many), many
        for name in WRONG_NAMES:
            yield ("mark", name, -1), name

    def test_wrong_edits_at_each_place(self):
        right = [("put", 0, "x"), ("take", 1, 1), ("mark", "a", 3)]
        for edit, thing in self.wrong():
            for at in range(4):
                for kind in (list, tuple):
                    roll = roll_with_both()
                    before = all_states(roll)
                    self.assertIs(thing_of(roll.do_all, kind(right[:at] + [edit] + right[at:])), thing)
                    self.assertEqual(all_states(roll), before)

    def test_pieces_with_a_number_that_is_no_code_point(self):
        for number in range(55296, 57344):
            character = chr(number)
            for piece in (character, character + "ab", "a" + character + "b", "ab" + character):
                roll = rolled("ab")
                edit = ("put", 0, piece)
                self.assertIs(thing_of(roll.do_all, [("put", 0, "q"), edit]), edit)
                self.assertEqual((state(roll), roll.undo(), roll.redo()), (("ab", {}), False, False))

    def test_pieces_of_any_code_points(self):
        for piece in ("", "\x00", "\ud7ff", "\ue000", "\U0010ffff", "a\ud7ff\ue000b"):
            roll = rolled("ab")
            roll.do_all([("put", 1, piece)])
            self.assertEqual((roll.text(), roll.undo(), roll.text()), ("a" + piece + "b", True, "ab"))

    def test_the_first_wrong_edit_is_told(self):
        roll = rolled("abc")
        self.assertEqual(thing_of(roll.do_all, [("put", 0, "x"), ("put", 9, "x"), ("puts", 1, "x"), ("put", 8, "x")]), 9)
        self.assertEqual(thing_of(roll.do_all, [("puts", 1, "x"), ("put", 9, "x")]), ("puts", 1, "x"))

    def test_positions_count_in_the_text_as_it_is_then(self):
        roll = rolled("")
        roll.do_all((("put", 0, "ab"), ("put", 2, "cd"), ("take", 1, 3), ("mark", "a", 1)))
        self.assertEqual(state(roll), ("a", {"a": 1}))
        self.assertEqual(thing_of(roll.do_all, (("take", 0, 1), ("mark", "a", 1))), 1)
        self.assertEqual(state(roll), ("a", {"a": 1}))


class WindowTest(unittest.TestCase):
    def test_verdicts_away_from_an_edit_stay(self):
        chance, seen = random.Random(255), 0
        for table in light_tables(256, 60):
            told = reach(table)
            if told[0] == "beyond":
                continue
            seen += 1
            _, before, after = told
            for _ in range(25):
                text = text_by(chance, table, chance.randrange(30))
                first = chance.randrange(len(text) + 1)
                last = chance.randrange(first, len(text) + 1)
                piece = text_by(chance, table, chance.randrange(4))
                roll = Roll(table, text)
                verdicts = roll.verdicts()
                roll.take(first, last - first)
                roll.put(first, piece)
                moved = len(piece) - (last - first)
                for at in range(len(text) + 1):
                    if at <= first - after:
                        self.assertEqual(roll.verdicts()[at], verdicts[at])
                    if at >= last + before:
                        self.assertEqual(roll.verdicts()[at + moved], verdicts[at])
        self.assertGreater(seen, 10)


class ExampleTest(unittest.TestCase):
    def test_the_example(self):
        roll = Roll(read_table(ONE), "baab")
        roll.mark("here", 3)
        roll.put(2, "cc")
        told = roll.text(), roll.cuts(), roll.place("here"), roll.take(0, 3), roll.undo(), roll.undo(), roll.text(), roll.cuts(), roll.redo()
        self.assertEqual(told, ("baccab", (1, 2, 3, 4, 5), 5, "bac", True, True, "baab", (1, 3), True))


if __name__ == "__main__":
    unittest.main()
