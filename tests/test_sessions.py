"""Sessions [27]."""

import unittest

from cutsanywhere.errors import BadText
from cutsanywhere.sessions import read_commands, run_session

ONE = "class a 'a'\nkeep a | a\nelse may"
WORDS = ("delete", "erase", "home", "last", "left", "redo", "right", "undo")
QUESTIONS = ("show", "where", "cuts")
NO_STRINGS = (None, 1, True, b"show", ["show"], ("show",), {"show": 1})
NO_COMMANDS = (
    "left ", " left", "show ", " show", "Left", "SHOW", "put", "Put x", "PUT x", " put x", "puts x", "put\tx", "left right", "show show",
    "lef", "leftt", "enter", "mark a 1", " ", "  ", "\t", "#", "# remark", "left#", "undo;", "quit", "words", "do", "cut", "\r", "left\r",
    "\u00e9", "\ud800", "put \ud800", "put a\udfff", "put \udbffa")


def place_of(call, *told):
    try:
        call(*told)
    except BadText as error:
        assert type(error) is BadText
        return error.line, error.column
    raise AssertionError(f"no BadText for {told!r}")


class ReadTest(unittest.TestCase):
    def test_word_for_word(self):
        text = "put baab\nshow\nleft\n\nput \nput  x  \nput put a\nput show\nwhere\ncuts\nput |\U0001f600#\nundo"
        self.assertEqual(read_commands(text), [
            ("put", "baab"), ("show", ""), ("left", ""), ("put", ""), ("put", " x  "), ("put", "put a"), ("put", "show"),
            ("where", ""), ("cuts", ""), ("put", "|\U0001f600#"), ("undo", "")])

    def test_each_word_and_question(self):
        for word in WORDS + QUESTIONS:
            self.assertEqual(read_commands(word), [(word, "")])
            self.assertEqual(read_commands(f"\n{word}\n{word}\n"), [(word, "")] * 2)
        self.assertEqual(read_commands("\n".join(WORDS + QUESTIONS)), [(word, "") for word in WORDS + QUESTIONS])

    def test_kinds(self):
        told = read_commands("put a\nshow")
        self.assertIs(type(told), list)
        self.assertEqual({type(command) for command in told}, {tuple})

    def test_nothing(self):
        for text in ("", "\n", "\n\n\n"):
            self.assertEqual(read_commands(text), [])

    def test_other_ends_of_lines_are_characters(self):
        self.assertEqual(read_commands("put a\rb\x0bc\u2028d\nshow"), [("put", "a\rb\x0bc\u2028d"), ("show", "")])

    def test_pieces_next_to_what_is_no_code_point(self):
        self.assertEqual(read_commands("put \ud7ff\ue000\nput \U0010ffff"), [("put", "\ud7ff\ue000"), ("put", "\U0010ffff")])

    def test_lines_that_are_none(self):
        for line in NO_COMMANDS:
            self.assertEqual(place_of(read_commands, line), (1, 1))
            self.assertEqual(place_of(read_commands, f"show\n\nput a\n{line}\nleft\n{line}"), (4, 1))
            self.assertEqual(place_of(read_commands, f"{line}\n"), (1, 1))

    def test_the_first_one_is_told(self):
        self.assertEqual(place_of(read_commands, "put\nLeft\n"), (1, 1))
        self.assertEqual(place_of(read_commands, "\n\nLeft\nput"), (3, 1))

    def test_values_that_are_no_strings(self):
        for thing in NO_STRINGS:
            self.assertEqual(place_of(read_commands, thing), (0, 0))

    def test_what_is_told_can_be_changed(self):
        told = read_commands("show")
        told.append(1)
        self.assertEqual(read_commands("show"), [("show", "")])


class RunTest(unittest.TestCase):
    def answers(self, commands, table=ONE):
        told = run_session(table, commands)
        self.assertIs(type(told), list)
        return told

    def test_the_example(self):
        self.assertEqual(
            self.answers("put baab\nshow\nleft\nleft\nerase\nshow\nundo\nwhere\ncuts"), ["b|aa|b", "aa|b", "0", "1 3"])

    def test_no_question_no_answer(self):
        for commands in ("", "\n\n", "put a", "left\nright\nhome\nlast\nerase\ndelete\nundo\nredo", "put a\nleft\n"):
            self.assertEqual(self.answers(commands), [])

    def test_questions_to_the_empty_roll(self):
        self.assertEqual(self.answers("show\nwhere\ncuts"), ["", "0", ""])

    def test_a_line_feed_at_the_end(self):
        for end in ("", "\n", "\n\n"):
            self.assertEqual(self.answers("put ab\nshow" + end), ["a|b"])

    def test_pieces(self):
        self.assertEqual(self.answers("put \nshow\nput  a \nshow\nwhere\nput put x\nshow\nput show\nwhere"),
                         ["", " |a| ", "3", " |a| |p|u|t| |x", "12"])

    def test_every_word(self):
        for word, text, place in (
                ("left", "b|aa|b", "1"), ("right", "b|aa|b", "4"), ("home", "b|aa|b", "0"), ("last", "b|aa|b", "4"),
                ("erase", "b|b", "1"), ("delete", "b|aa", "3"), ("undo", "", "0")):
            self.assertEqual(self.answers(f"put baab\nleft\n{word}\nshow\nwhere"), [text, place])
        self.assertEqual(self.answers("put aa\nput b\nundo\nshow\nwhere\nredo\nshow\nwhere"), ["aa", "2", "aa|b", "2"])

    def test_the_empty_piece_is_a_step(self):
        self.assertEqual(self.answers("put ab\nput \nundo\nshow\nundo\nshow"), ["a|b", ""])

    def test_answers_are_texts(self):
        self.assertEqual(self.answers("put abaab\ncuts\nwhere\nhome\nwhere"), ["1 2 4", "5", "0"])

    def test_another_table(self):
        pairs = "class dot '.'\nkeep start (dot dot)* dot | dot\nelse may"
        self.assertEqual(self.answers("put .....\nshow\ncuts\nleft\nleft\nerase\nshow\nwhere", pairs), ["..|..|.", "2 4", "..|.", "0"])

    def test_the_table_is_read_first(self):
        for commands in ("show", "Left", None, 7):
            self.assertEqual(place_of(run_session, "else", commands), (1, 5))
            self.assertEqual(place_of(run_session, None, commands), (0, 0))
        self.assertEqual(place_of(run_session, "class a 'a'\nkeep a | b\nelse may", "Left"), (2, 10))

    def test_then_all_commands(self):
        for thing in NO_STRINGS:
            self.assertEqual(place_of(run_session, ONE, thing), (0, 0))
        for line in NO_COMMANDS:
            self.assertEqual(place_of(run_session, ONE, f"put a\nshow\n{line}"), (3, 1))


if __name__ == "__main__":
    unittest.main()
