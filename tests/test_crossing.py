"""Crossing [30]."""

import random
import unittest

from tagging import change_by, change_by_chance, changes_of, done, tagged

from cutsanywhere.changes import changed, crossed, in_form, is_change
from cutsanywhere.errors import BadThing


def both(text, one, other):
    """The tagged text behind two changes: what one puts in at a place stands ahead of what the other one does."""
    puts, takes = [], []
    for name, change in (("one", one), ("other", other)):
        at, many, own, gone = 0, 0, {}, set()
        for kind, told in change:
            if kind == "put":
                own[at] = [((name, many + k), sign) for k, sign in enumerate(told)]
                many += len(told)
            else:
                size = told if kind == "skip" else len(told)
                gone |= set(range(at, at + size)) if kind == "take" else set()
                at += size
        puts.append(own)
        takes.append(gone)
    found = []
    for at in range(len(text) + 1):
        found += puts[0].get(at, []) + puts[1].get(at, [])
        if at not in takes[0] | takes[1]:
            found += tagged("text", text)[at:at + 1]
    return found


class CrossingTest(unittest.TestCase):
    def check(self, text, one, other):
        told = crossed(one, other)
        self.assertIs(type(told), tuple)
        late, more = told
        self.assertTrue(is_change(late) and is_change(more))
        self.assertEqual(changed(changed(text, one), more), changed(changed(text, other), late))
        before, after = tagged("text", text), both(text, one, other)
        self.assertEqual(late, change_by(done(before, other, "other"), after))
        self.assertEqual(more, change_by(done(before, one, "one"), after))

    def test_all_pairs_of_short_texts(self):
        for text, pieces in (("", ("x", "yz")), ("a", ("x", "yz")), ("ab", ("x",))):
            changes = list(changes_of(text, pieces))
            for one in changes:
                for other in changes:
                    self.check(text, one, other)

    def test_drawn_pairs(self):
        chance = random.Random(294)
        for _ in range(500):
            text = "".join(chance.choice("abc") for _ in range(chance.randrange(14)))
            self.check(text, change_by_chance(chance, text, "abc"), change_by_chance(chance, text, "abc"))

    def test_puts_at_one_place(self):
        for text in ("", "a", "ab"):
            for at in range(len(text) + 1):
                one, other = (in_form((("skip", at), ("put", piece), ("skip", len(text) - at))) for piece in ("xx", "y"))
                late, more = crossed(one, other)
                self.assertEqual(changed(changed(text, one), more), text[:at] + "xxy" + text[at:])
                late, more = crossed(other, one)
                self.assertEqual(changed(changed(text, other), more), text[:at] + "yxx" + text[at:])

    def test_puts_at_both_ends_of_what_one_takes(self):
        one, other = (("put", "x"), ("take", "ab")), (("skip", 2), ("put", "y"))
        self.assertEqual(changed(changed("ab", one), crossed(one, other)[1]), "xy")
        self.assertEqual(changed(changed("ab", one), crossed(other, one)[0]), "xy")

    def test_what_both_take_is_taken_once(self):
        one, other = (("skip", 1), ("take", "bc"), ("skip", 1)), (("skip", 2), ("take", "cd"))
        self.assertEqual(crossed(one, other), ((("skip", 1), ("take", "b")), (("skip", 1), ("take", "d"))))
        self.assertEqual(crossed(one, one), ((("skip", 2),), (("skip", 2),)))
        self.assertEqual(crossed((("take", "ab"),), (("take", "ab"),)), ((), ()))

    def test_changes_that_do_nothing(self):
        for text in ("", "ab"):
            nothing = in_form((("skip", len(text)),))
            for change in changes_of(text, ("x",)):
                after = in_form((("skip", len(changed(text, change))),))
                self.assertEqual(crossed(nothing, change), (after, change))
                self.assertEqual(crossed(change, nothing), (change, after))

    def test_the_example(self):
        cake, tea = (("skip", 2), ("put", "cake"), ("take", "cup")), (("skip", 5), ("put", " of tea"))
        self.assertEqual(crossed(cake, tea)[0], (("skip", 2), ("put", "cake"), ("take", "cup"), ("skip", 7)))
        self.assertEqual(changed(changed("a cup", cake), crossed(cake, tea)[1]), "a cake of tea")

    def test_unlike_sizes(self):
        for one, other in (((), (("skip", 1),)), ((("skip", 2),), (("take", "a"),)), ((("put", "x"),), (("take", "x"),)),
                           ((("skip", 1), ("put", "ab")), (("skip", 3),)), ((("take", "abc"),), (("take", "ab"),))):
            self.assertRaises(BadThing, crossed, one, other)
            self.assertRaises(BadThing, crossed, other, one)

    def test_unlike_characters_at_one_place(self):
        for one, other in (((("take", "a"),), (("take", "b"),)), ((("skip", 1), ("take", "bc")), (("skip", 2), ("take", "d"))),
                           ((("take", "ab"),), (("take", "ac"),)),
                           ((("put", "x"), ("take", "ab")), (("skip", 1), ("put", "y"), ("take", "c")))):
            self.assertRaises(BadThing, crossed, one, other)
            self.assertRaises(BadThing, crossed, other, one)
        # At unlike places nothing is compared.
        self.assertEqual(crossed((("take", "a"), ("skip", 1)), (("skip", 1), ("take", "b"))), ((("take", "a"),), (("take", "b"),)))


if __name__ == "__main__":
    unittest.main()
