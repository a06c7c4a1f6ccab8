"""Rolls and edits by chance, values that are wrong, and the things of errors, for the tests of what is edited."""

from making import text_by

from cutsanywhere.errors import BadThing
from cutsanywhere.rolls import Roll
from cutsanywhere.tablereader import read_table

ONE = "class a 'a'\nkeep a | a\nelse may"
NAMES = ("a", "b2", "x_y", "end")
NO_INTEGERS = (True, False, "1", None, 1.0, (1,), [1], b"1")
WRONG_NAMES = (
    "", "a" * 31, "A", "aB", "1a", "_a", "_", "\u00e9", "a\u00e9", "a-b", "a b", " a", "a ", "a\n", "\u0430", "\u0661", "a\u0661",
    None, 1, True, b"a", ("a",), ["a"], {"a": 1}, {"a"})


def rolled(text, **marks):
    roll = Roll(read_table(ONE), text)
    for name, place in marks.items():
        roll.mark(name, place)
    return roll


def thing_of(call, *told):
    """What the BadThing of a call bears: the error is itself, not one that derives from it."""
    try:
        call(*told)
    except BadThing as error:
        assert type(error) is BadThing
        return error.thing
    raise AssertionError(f"no BadThing for {told!r}")


def edit_by(chance, table, size):
    """An edit of a text of this size by chance: empty pieces and takes of nothing among them."""
    position = chance.choice((0, size, chance.randrange(size + 1)))
    word = chance.choice(("put", "put", "take", "mark"))
    if word == "put":
        return word, position, text_by(chance, table, chance.choice((0, 1, 1, 2, 5)))
    if word == "take":
        return word, position, chance.choice((0, size - position, chance.randrange(size - position + 1)))
    return word, chance.choice(NAMES), position


def do(roll, edit):
    return {"put": roll.put, "take": roll.take, "mark": roll.mark}[edit[0]](*edit[1:])


def marks_of(roll):
    """The marks among these names, by place alone."""
    marks = {}
    for name in NAMES:
        try:
            marks[name] = roll.place(name)
        except BadThing:
            pass
    return marks
