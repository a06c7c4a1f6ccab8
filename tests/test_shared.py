"""Meetings [31]."""

import copy
import random
import unittest

from editing import NO_INTEGERS, thing_of

from cutsanywhere.changes import change_at, changed, composed, crossed, is_change
from cutsanywhere.shared import Meeting


class Plain:
    """The same meeting told a second time, with whole letters in two lists of rows, word for word as it is defined."""

    def __init__(self, text, many):
        self.text, self.log = text, []
        self.texts = [text] * many
        self.known = [0] * many
        self.own = [[] for _ in range(many)]  # the changes that are not done yet: the one sent, the one that waits
        self.ups = [[] for _ in range(many)]
        self.downs = [[] for _ in range(many)]

    def edit(self, who, position, many, piece):
        change = change_at(self.texts[who], position, many, piece)
        self.texts[who] = self.texts[who][:position] + piece + self.texts[who][position + many:]
        if len(self.own[who]) == 2:
            self.own[who][1] = composed(self.own[who][1], change)
        else:
            self.own[who].append(change)
            if len(self.own[who]) == 1:
                self.ups[who].append((self.known[who], change))

    def come_up(self, who):
        if not self.ups[who]:
            return False
        known, change = self.ups[who].pop(0)
        for told in self.log[known:]:
            change = crossed(told, change)[1]
        self.text = changed(self.text, change)
        self.log.append(change)
        for at, letters in enumerate(self.downs):
            letters.append("done" if at == who else change)
        return True

    def come_down(self, who):
        if not self.downs[who]:
            return False
        letter = self.downs[who].pop(0)
        self.known[who] += 1
        if letter == "done":
            self.own[who].pop(0)
            if self.own[who]:
                self.ups[who].append((self.known[who], self.own[who][0]))
        else:
            for at, own in enumerate(self.own[who]):
                letter, self.own[who][at] = crossed(letter, own)
            self.texts[who] = changed(self.texts[who], letter)
        return True

    def state(self):
        return self.text, self.log, self.texts, sum(len(letters) for letters in self.ups + self.downs)


def state(meeting):
    return meeting.text, meeting.log, [editor.text for editor in meeting.editors], meeting.under_way()


def edit_by(chance, text):
    position = chance.randrange(len(text) + 1)
    many = chance.choice((0, 0, chance.randrange(len(text) - position + 1)))
    return position, many, "".join(chance.choice("abcd") for _ in range(chance.choice((0, 1, 1, 2, 4))))


class MeetingTest(unittest.TestCase):
    def check_settled(self, meeting, first):
        text = first
        for change in meeting.log:
            self.assertTrue(is_change(change))
            text = changed(text, change)
        self.assertEqual(text, meeting.text)
        self.assertEqual({editor.text for editor in meeting.editors}, {text})
        self.assertEqual(meeting.under_way(), 0)

    def drawn(self, seed, many, events, acts):
        chance = random.Random(seed)
        first = "".join(chance.choice("abcd") for _ in range(chance.randrange(10)))
        meeting, plain = Meeting(first, many), Plain(first, many)
        self.assertEqual(state(meeting), plain.state())
        for _ in range(events):
            act, who = chance.choice(acts), chance.randrange(many)
            if act == "edit":
                told = edit_by(chance, meeting.editors[who].text)
                self.assertIsNone(meeting.edit(who, *told))
                plain.edit(who, *told)
            else:
                self.assertIs(getattr(meeting, act)(who), getattr(plain, act)(who))
            self.assertEqual(state(meeting), plain.state())
        return meeting, plain, first

    def settled(self, meeting, plain, first):
        """Settle both; the second one's letters come in an order of their own."""
        chance = random.Random(len(first))
        many = 0
        while plain.state()[3]:
            many += getattr(plain, chance.choice(("come_up", "come_down")))(chance.randrange(len(plain.texts)))
        self.assertEqual(meeting.settle(), many)
        self.check_settled(meeting, first)
        self.assertEqual(len(meeting.log), len(plain.log))

    def test_drawn_orders(self):
        for seed in range(120):
            acts = (("edit", "come_up", "come_down"), ("edit", "come_up", "come_down", "come_down"), ("edit", "edit", "come_up"),
                    ("edit", "edit", "edit", "come_up", "come_down"))[seed % 4]
            self.settled(*self.drawn(seed, seed % 8 + 1, 40, acts))

    def test_edits_between_two_settlings(self):
        chance = random.Random(311)
        for many in range(1, 9):
            meeting, first = Meeting("abc", many), "abc"
            for _ in range(6):
                for _ in range(5):
                    who = chance.randrange(many)
                    meeting.edit(who, *edit_by(chance, meeting.editors[who].text))
                self.assertGreater(meeting.settle(), 0)
                self.check_settled(meeting, first)

    def test_every_order_of_two_editors(self):
        """All orders in which the letters of two editors with two edits each can come."""
        edits = ((0, 0, 1, "x"), (1, 0, 2, "y"), (0, 1, 1, ""), (1, 1, 0, "zz"))
        texts, left = set(), [()]
        while left:
            path = left.pop()
            meeting = Meeting("ab", 2)
            for edit in edits:
                meeting.edit(*edit)
            for word, who in path:
                self.assertTrue(getattr(meeting, word)(who))
            if meeting.under_way() == 0:
                self.check_settled(meeting, "ab")
                texts.add(meeting.text)
                continue
            for word in ("come_up", "come_down"):
                for who in (0, 1):
                    if getattr(copy.deepcopy(meeting), word)(who):
                        left.append((*path, (word, who)))
        # The order of the letters plays a part, but all have the same text.
        self.assertGreater(len(texts), 1)

    def test_settled_at_once(self):
        meeting = Meeting("abc", 3)
        self.assertEqual((meeting.settle(), meeting.under_way(), meeting.text, meeting.log), (0, 0, "abc", []))


class LetterTest(unittest.TestCase):
    def test_at_first(self):
        for many in range(1, 9):
            meeting = Meeting("a cup", many)
            self.assertEqual(state(meeting), ("a cup", [], ["a cup"] * many, 0))
            self.assertIs(type(meeting.log), list)
            self.assertIs(type(meeting.editors), list)
            for who in range(many):
                self.assertIs(meeting.come_up(who), False)
                self.assertIs(meeting.come_down(who), False)

    def test_one_letter_up_and_one_down_for_each(self):
        for many in range(1, 9):
            meeting = Meeting("ab", many)
            meeting.edit(0, 1, 0, "x")
            self.assertEqual(state(meeting), ("ab", [], ["axb"] + ["ab"] * (many - 1), 1))
            self.assertIs(meeting.come_up(0), True)
            self.assertEqual((meeting.text, meeting.under_way()), ("axb", many))
            self.assertIs(meeting.come_up(0), False)
            for who in range(many):
                self.assertIs(meeting.come_down(who), True)
                self.assertIs(meeting.come_down(who), False)
            self.assertEqual(state(meeting), ("axb", [(("skip", 1), ("put", "x"), ("skip", 1))], ["axb"] * many, 0))

    def test_what_is_done_meanwhile_waits_as_one(self):
        meeting = Meeting("", 2)
        for at, piece in enumerate("abcd"):
            meeting.edit(0, at, 0, piece)
        self.assertEqual(state(meeting), ("", [], ["abcd", ""], 1))
        self.assertTrue(meeting.come_up(0))
        self.assertEqual((meeting.text, meeting.under_way(), meeting.come_up(0)), ("a", 2, False))
        meeting.edit(0, 4, 0, "e")
        self.assertEqual((meeting.under_way(), meeting.come_up(0)), (2, False))
        self.assertTrue(meeting.come_down(0))
        self.assertEqual(meeting.under_way(), 2)
        self.assertTrue(meeting.come_up(0))
        self.assertEqual(meeting.log, [(("put", "a"),), (("skip", 1), ("put", "bcde"))])
        self.assertEqual(meeting.settle(), 3)
        self.assertEqual(state(meeting)[2:], (["abcde"] * 2, 0))

    def test_edits_that_change_nothing_are_sent(self):
        meeting = Meeting("ab", 2)
        meeting.edit(0, 1, 0, "")
        self.assertEqual(meeting.under_way(), 1)
        self.assertEqual(meeting.settle(), 3)
        self.assertEqual(state(meeting), ("ab", [(("skip", 2),)], ["ab"] * 2, 0))
        meeting.edit(1, 0, 1, "a")
        meeting.edit(1, 0, 0, "")
        self.assertEqual((meeting.settle(), len(meeting.log), meeting.log[1]), (6, 3, (("put", "a"), ("take", "a"), ("skip", 1))))
        empty = Meeting("", 2)
        empty.edit(0, 0, 0, "")
        empty.edit(0, 0, 0, "")
        self.assertEqual((empty.settle(), empty.log, empty.text), (6, [(), ()], ""))

    def test_who_stands_ahead_at_one_place(self):
        for first, text in ((0, "xxyy"), (1, "yyxx")):
            meeting = Meeting("", 2)
            meeting.edit(0, 0, 0, "xx")
            meeting.edit(1, 0, 0, "yy")
            self.assertTrue(meeting.come_up(first) and meeting.come_up(1 - first))
            self.assertEqual(meeting.text, text)
            meeting.settle()
            self.assertEqual([editor.text for editor in meeting.editors], [text] * 2)

    def test_a_letter_that_comes_late(self):
        meeting = Meeting("abc", 3)
        meeting.edit(2, 2, 1, "C")
        for at in range(3):
            meeting.edit(0, at, 0, "x")
            meeting.come_up(0)
            meeting.come_down(0)
        self.assertEqual(meeting.text, "xxxabc")
        meeting.come_up(2)
        self.assertEqual((meeting.text, meeting.log[-1]), ("xxxabC", (("skip", 5), ("put", "C"), ("take", "c"))))
        self.assertEqual(meeting.settle(), 4 * 3 - 3)
        self.assertEqual({editor.text for editor in meeting.editors}, {"xxxabC"})

    def test_what_both_take_is_taken_once(self):
        meeting = Meeting("abcd", 2)
        meeting.edit(0, 0, 3, "")
        meeting.edit(1, 1, 3, "")
        meeting.settle()
        self.assertEqual((meeting.text, [editor.text for editor in meeting.editors]), ("", ["", ""]))

    def test_letters_in_order(self):
        meeting = Meeting("", 2)
        for piece in "abc":
            meeting.edit(0, 0, 0, piece)
            meeting.come_up(0)
            meeting.come_down(0)
        told = [meeting.editors[1].text]
        while meeting.come_down(1):
            told.append(meeting.editors[1].text)
        self.assertEqual(told, ["", "a", "ba", "cba"])

    def test_the_example(self):
        meeting = Meeting("a cup", 2)
        meeting.edit(0, 2, 3, "cake")
        meeting.edit(1, 5, 0, " of tea")
        self.assertEqual((meeting.come_up(1), [editor.text for editor in meeting.editors]), (True, ["a cake", "a cup of tea"]))
        self.assertEqual((meeting.settle() > 0, meeting.text, len(meeting.log)), (True, "a cake of tea", 2))
        self.assertEqual([editor.text for editor in meeting.editors], ["a cake of tea"] * 2)

    def test_the_interface(self):
        for name in ("edit", "come_up", "come_down", "under_way", "settle"):
            self.assertIn(name, vars(Meeting))
        meeting = Meeting("ab", 2)
        for name in ("text", "log", "editors"):
            self.assertIn(name, vars(meeting))
        self.assertIn("text", vars(meeting.editors[1]))


class ErrorTest(unittest.TestCase):
    def test_how_many_editors(self):
        for many in (0, 9, -1, 10 ** 20, *NO_INTEGERS):
            self.assertIs(thing_of(Meeting, "ab", many), many)

    def test_who(self):
        meeting = Meeting("ab", 3)
        meeting.edit(0, 0, 0, "x")
        meeting.come_up(0)
        before = copy.deepcopy(state(meeting))
        for who in (-1, 3, 10 ** 20, *NO_INTEGERS):
            self.assertIs(thing_of(meeting.come_up, who), who)
            self.assertIs(thing_of(meeting.come_down, who), who)
            self.assertIs(thing_of(meeting.edit, who, 0, 0, "x"), who)
            self.assertIs(thing_of(meeting.edit, who, -1, -1, "x"), who)
        self.assertEqual(state(meeting), before)

    def test_what_change_at_asks(self):
        meeting = Meeting("ab", 2)
        meeting.edit(1, 0, 0, "x")
        before = copy.deepcopy(state(meeting))
        for position in (-1, 3, *NO_INTEGERS):
            self.assertIs(thing_of(meeting.edit, 0, position, -1, "x"), position)
        for many in (-1, 2, *NO_INTEGERS):
            self.assertIs(thing_of(meeting.edit, 0, 1, many, "x"), many)
        self.assertEqual(state(meeting), before)
        # Each editor's positions are those of its own text.
        meeting.edit(1, 3, 0, "y")
        self.assertEqual(meeting.editors[1].text, "xaby")
        self.assertEqual((meeting.settle(), meeting.text), (6, "xaby"))


if __name__ == "__main__":
    unittest.main()
