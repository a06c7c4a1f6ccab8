"""The error classes: whose subclasses they are, and what they tell."""

import unittest

from cutsanywhere.errors import BadTable, BadText, BadThing, CutError, TooMany


class Unshowable:
    def __repr__(self):
        raise RuntimeError("cannot be shown")


class ErrorsTest(unittest.TestCase):
    def test_bases(self):
        self.assertEqual(CutError.__bases__, (ValueError,))
        for kind in (BadText, BadTable, BadThing, TooMany):
            self.assertEqual(kind.__bases__, (CutError,))

    def test_parameters_are_attributes(self):
        error = BadText(3, 14)
        self.assertEqual((error.line, error.column), (3, 14))
        error = BadTable("letter", "because")
        self.assertEqual((error.name, error.why), ("letter", "because"))
        error = BadTable(7, "because")
        self.assertEqual((error.name, error.why), (7, "because"))
        thing = [1, 2]
        self.assertIs(BadThing(thing).thing, thing)
        self.assertEqual(TooMany(5001).count, 5001)

    def test_parameters_by_name(self):
        self.assertEqual(BadText(line=1, column=2).column, 2)
        self.assertEqual(BadTable(name="a", why="b").why, "b")
        self.assertEqual(BadThing(thing=None).thing, None)
        self.assertEqual(TooMany(count=9).count, 9)

    def test_they_have_words(self):
        for error in (BadText(1, 2), BadTable("a", "b"), BadThing(5), TooMany(6)):
            self.assertTrue(str(error))

    def test_things_that_cannot_be_shown(self):
        for thing in (Unshowable(), 10 ** 5000, float("nan")):
            self.assertIs(BadThing(thing).thing, thing)
            self.assertTrue(str(BadThing(thing)))


if __name__ == "__main__":
    unittest.main()
