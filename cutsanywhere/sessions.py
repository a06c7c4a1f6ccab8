"""Sessions: commands to a cursor in an empty roll, told as a text, and the answers to their questions."""

from cutsanywhere.cursors import WORDS, Cursor
from cutsanywhere.cutting import units_of
from cutsanywhere.errors import BadText
from cutsanywhere.rolls import Roll
from cutsanywhere.signs import is_text
from cutsanywhere.tablereader import read_table

QUESTIONS = ("cuts", "show", "where")
PUT = "put"
PUT_AHEAD = "put "


def read_commands(text):
    """The commands that a text tells, as a list of (word, piece)."""
    if not isinstance(text, str):
        raise BadText(0, 0)
    commands = []
    for at, line in enumerate(text.split("\n")):
        if line.startswith(PUT_AHEAD) and is_text(line[len(PUT_AHEAD):]):
            commands.append((PUT, line[len(PUT_AHEAD):]))
        elif line in WORDS or line in QUESTIONS:
            commands.append((line, ""))
        elif line:
            raise BadText(at + 1, 1)
    return commands


def run_session(table_text, commands):
    """The list of the answers to a text of commands, under the table that another text tells."""
    roll = Roll(read_table(table_text), "")
    cursor = Cursor(roll)
    answers = []
    for word, piece in read_commands(commands):
        if word == PUT:
            cursor.enter(piece)
        elif word in QUESTIONS:
            answers.append(_answer(cursor, word))
        else:
            cursor.do(word)
    return answers


def _answer(cursor, question):
    roll = cursor.roll
    if question == "show":
        return "|".join(units_of(roll.table, roll.text()))
    if question == "where":
        return str(cursor.where())
    return " ".join([str(cut) for cut in roll.cuts()])
