"""Tables as texts [10], and errors in them [11]."""

import itertools
import random
import re
import unittest

from cutsanywhere.errors import BadText
from cutsanywhere.tablereader import read_table

A, B, ANY, EMPTY = ("class", "a"), ("class", "b"), ("any",), ("row", ())
HEAD = "class a 'a'\nclass b 'b'\n"
OWN_WORDS = ("class", "keep", "may", "must", "hide", "else", "any", "not", "start", "end")


def rows_read(text):
    return read_table(text + "\nelse may").classes.rows


def lines_read(text):
    return read_table(HEAD + text + "\nelse may").lines


def before_read(pattern):
    """The pattern that is read from a text, ahead of the sign |; behind it the same must be read."""
    (line,) = lines_read(f"keep {pattern} | {pattern}")
    assert line[2] == line[3]
    assert line[2][0] is False
    return line[2][1]


class Wrong(unittest.TestCase):
    def check(self, text, line, column):
        with self.assertRaises(BadText, msg=text) as caught:
            read_table(text)
        self.assertEqual((caught.exception.line, caught.exception.column), (line, column), text)

    def check_line(self, text, column):
        """A line behind two class lines is wrong at a column, whatever stands behind it."""
        for rest in ("\nelse may", "", "\n$\nelse", "\nelse may\nelse may"):
            self.check(HEAD + text + rest, 3, column)

    def check_at(self, text):
        """A line is wrong where a ^ stands in its text."""
        self.check_line(text.replace("^", "", 1), text.index("^") + 1)


class RightTest(unittest.TestCase):
    def test_a_whole_table(self):
        table = read_table(
            "# a table\nclass vowel 'a' 'e' U+0069\n\nclass letter 'a'-'z'  # all\nkeep vowel | vowel\nhide other vowel\n"
            "may start letter* | not vowel end\nelse must\n  # the end\n")
        self.assertEqual(table.classes.rows, (("vowel", ((97, 97), (101, 101), (105, 105))), ("letter", ((97, 122),))))
        self.assertEqual(table.lines, (
            ("rule", "keep", (False, ("class", "vowel")), (False, ("class", "vowel"))),
            ("hide", ("other", "vowel")),
            ("rule", "may", (True, ("star", ("class", "letter"))), (True, ("not", "vowel"))),
        ))
        self.assertEqual(table.otherwise, "must")
        self.assertEqual(table.rules[1][3], ("vowel", "other"))

    def test_the_least_table(self):
        for verdict in ("keep", "may", "must"):
            table = read_table("else " + verdict)
            self.assertEqual((table.classes.rows, table.lines, table.otherwise), ((), (), verdict))

    def test_class_lines(self):
        self.assertEqual(rows_read("class a 'a'"), (("a", ((97, 97),)),))
        self.assertEqual(rows_read("class a 'c' 'a' 'b' 'x' 'a'"), (("a", ((97, 99), (120, 120))),))
        self.assertEqual(rows_read("class a 'a'-'c' U+0062-U+0064 'z'"), (("a", ((97, 100), (122, 122))),))
        self.assertEqual(rows_read("class a 'a'-'a'"), (("a", ((97, 97),)),))
        self.assertEqual(rows_read("class a 'a'-U+0063"), (("a", ((97, 99),)),))
        self.assertEqual(rows_read("class a U+D000-U+E001"), (("a", ((0xD000, 0xD7FF), (0xE000, 0xE001))),))
        self.assertEqual(rows_read("class a U+0000-U+10FFFF"), (("a", ((0, 55295), (57344, 1114111))),))
        self.assertEqual(rows_read("class a U+0041\nclass z9_ 'a'"), (("a", ((65, 65),)), ("z9_", ((97, 97),))))
        self.assertEqual(rows_read("class a 'a'-'c'\nclass b 'a'-'d'"), (("a", ((97, 99),)), ("b", ((97, 100),))))
        self.assertEqual(rows_read("class " + "a" * 30 + " 'a'"), (("a" * 30, ((97, 97),)),))

    def test_characters(self):
        for character in "a #|()/*+?-'\"U\\\t\r\x00\u00e9\u20ac\ud7ff\ue000\U0001f600\U0010ffff":
            self.assertEqual(rows_read(f"class a '{character}'"), (("a", ((ord(character),) * 2,)),))
        self.assertEqual(rows_read("class a '''-')'"), (("a", ((39, 41),)),))
        self.assertEqual(rows_read("class a ''''a''b'"), (("a", ((39, 39), (97, 98))),))
        self.assertEqual(rows_read("class a '#' # 'b'"), (("a", ((35, 35),)),))

    def test_figures(self):
        for text, point in (("U+0041", 0x41), ("U+00041", 0x41), ("U+000041", 0x41), ("U+1F600", 128512),
                            ("U+10FFFF", 1114111), ("U+D7FF", 55295), ("U+E000", 57344), ("U+ABCD", 0xABCD)):
            self.assertEqual(rows_read("class a " + text), (("a", ((point, point),)),))

    def test_tokens_right_beside_one_another(self):
        self.assertEqual(rows_read("class a'a''b'-'d'U+0041U+0051-U+0053'x'"),
                         (("a", ((65, 65), (81, 83), (97, 100), (120, 120))),))
        self.assertEqual(rows_read("class aU+0041"), (("a", ((65, 65),)),))
        self.assertEqual(lines_read("keep(a)b*/not b+|(any)(a)?"), lines_read("keep (a) b * / not b + | (any) (a) ?"))
        self.assertEqual(lines_read("keep|"), (("rule", "keep", (False, EMPTY), (False, EMPTY)),))
        self.assertEqual(lines_read("keep start|end"), (("rule", "keep", (True, EMPTY), (True, EMPTY)),))
        self.assertEqual(lines_read("keep a|b#c"), (("rule", "keep", (False, A), (False, B)),))
        self.assertEqual(read_table("else may#").otherwise, "may")

    def test_blanks_remarks_and_empty_lines(self):
        plain = read_table("class a 'a'\nkeep a | a\nhide a\nelse may")
        for text in (
            "\n\nclass a 'a'\n\nkeep a | a\n   \nhide a\n# x\nelse may\n\n",
            "  class   a   'a'  \n keep  a  |  a   # x # y\n  hide   a#\nelse   may   ",
            "#\n#class b 'b'\nclass a 'a' # 'b'\nkeep a | a #* $ % \u00e9 \t\nhide a\nelse may # keep\n   # else keep\n#",
        ):
            table = read_table(text)
            self.assertEqual((table.classes.rows, table.lines, table.otherwise),
                             (plain.classes.rows, plain.lines, plain.otherwise))

    def test_sides(self):
        self.assertEqual(lines_read("keep a | b"), (("rule", "keep", (False, A), (False, B)),))
        self.assertEqual(lines_read("may start a | b"), (("rule", "may", (True, A), (False, B)),))
        self.assertEqual(lines_read("must a | b end"), (("rule", "must", (False, A), (True, B)),))
        self.assertEqual(lines_read("keep start | end"), (("rule", "keep", (True, EMPTY), (True, EMPTY)),))
        self.assertEqual(lines_read("keep start | a"), (("rule", "keep", (True, EMPTY), (False, A)),))
        self.assertEqual(lines_read("keep a | end"), (("rule", "keep", (False, A), (True, EMPTY)),))
        self.assertEqual(lines_read("keep start a b | a / b end"), (
            ("rule", "keep", (True, ("row", (A, B))), (True, ("either", (A, B)))),))

    def test_hide_lines(self):
        self.assertEqual(lines_read("hide a"), (("hide", ("a",)),))
        self.assertEqual(lines_read("hide b other a b"), (("hide", ("b", "other", "a", "b")),))
        self.assertEqual(lines_read("hide a\nkeep | \nhide b\nhide other"), (
            ("hide", ("a",)), ("rule", "keep", (False, EMPTY), (False, EMPTY)), ("hide", ("b",)), ("hide", ("other",))))

    def test_patterns(self):
        cases = (
            ("", EMPTY), ("a", A), ("any", ANY), ("not a", ("not", "a")), ("other", ("class", "other")),
            ("not other", ("not", "other")), ("a*", ("star", A)), ("a+", ("plus", A)), ("a ?", ("maybe", A)),
            ("not a*", ("star", ("not", "a"))), ("any?", ("maybe", ANY)),
            ("a b", ("row", (A, B))), ("a b any", ("row", (A, B, ANY))), ("a b*", ("row", (A, ("star", B)))),
            ("a / b", ("either", (A, B))), ("a / b / any", ("either", (A, B, ANY))),
            ("a b / b a", ("either", (("row", (A, B)), ("row", (B, A))))),
            ("(a)", A), ("((a))", A), ("(a b)", ("row", (A, B))), ("(a / b)", ("either", (A, B))), ("(((((a)))))", A),
            ("(a b) a", ("row", (("row", (A, B)), A))), ("a (b)", ("row", (A, B))), ("(a) (b)", ("row", (A, B))),
            ("(a / b) a", ("row", (("either", (A, B)), A))), ("(a / b) / a", ("either", (("either", (A, B)), A))),
            ("(a b) / a", ("either", (("row", (A, B)), A))), ("(a) / (b)", ("either", (A, B))),
            ("(a)*", ("star", A)), ("(a b)*", ("star", ("row", (A, B)))), ("(a / b)+", ("plus", ("either", (A, B)))),
            ("(a*)*", ("star", ("star", A))), ("((a?)+)*", ("star", ("plus", ("maybe", A)))), ("((a b))?", ("maybe", ("row", (A, B)))),
            ("(not a)*", ("star", ("not", "a"))), ("a* b+ any?", ("row", (("star", A), ("plus", B), ("maybe", ANY)))),
            ("(a) (a) (a) (a) (a) (a)", ("row", (A,) * 6)),
        )
        for text, pattern in cases:
            self.assertEqual(before_read(text), pattern, text)

    def test_sixty_items(self):
        self.assertEqual(before_read("a " * 60), ("row", (A,) * 60))
        self.assertEqual(before_read("not a " * 60), ("row", (("not", "a"),) * 60))
        self.assertEqual(before_read("(" + "a " * 59 + ")* / any"), ("either", (("star", ("row", (A,) * 59)), ANY)))


class TokenErrorsTest(Wrong):
    def test_characters_that_begin_no_token(self):
        for character in "$%&,.:;<=>@[]\\^_`{}~\"!0159ABTVZ\t\r\x00\x7f\u00a0\u00e9\u2028\U0001f600":
            self.check_at(f"keep a ^{character} | b")
            self.check_at(f"^{character}")
            self.check_at(f"keep a | b ^{character} # x")

    def test_words_of_more_than_thirty_characters(self):
        self.check_at("^" + "a" * 31)
        self.check_at("keep a | ^" + "b" * 31 + " $")
        self.check("class " + "a" * 31 + " 'a'", 1, 7)
        self.check("class a 'a'" + "a" * 30 + "_", 1, 12)

    def test_apostrophes_that_begin_no_character(self):
        self.check("class a '", 1, 9)
        self.check("class a 'a", 1, 9)
        self.check("class a 'ab'", 1, 9)
        self.check("class a ''", 1, 9)
        self.check("class a ''a'", 1, 9)
        self.check("class a ''''", 1, 12)
        self.check("class a 'a''", 1, 12)
        self.check("class a '\n'", 1, 9)
        self.check("class a 'a' 'b # '", 1, 13)
        for number in (55296, 56319, 56320, 57343):
            self.check(f"class a '{chr(number)}'", 1, 9)
            self.check(f"class a 'a'-'{chr(number)}'", 1, 13)
            self.check(f"class a 'a'\nclass b a 'c' '{chr(number)}'", 2, 15)

    def test_figures(self):
        for text in ("U", "U+", "U+1", "U+12", "U+123", "U+1234567", "U+00000041", "U+D800", "U+DFFF", "U+00DABC", "U+110000",
                     "U+FFFFFF", "U +0041", "U+ 0041", "U+004g", "U-0041", "U0041", "U+00e9", "U+G041"):
            self.check("class a " + text, 1, 9)
            self.check("class a 'a'" + text + " 'b'", 1, 12)
        self.check("class a u+0041", 1, 11)
        self.check("class a u+a", 1, 9)  # a word where a character must stand

    def test_a_wrong_token_counts_before_tokens_in_wrong_places(self):
        self.check_at("keep keep | | b ^$")
        self.check_at("foo ^$ $")
        self.check("class class 'a' $", 1, 17)
        self.check("class a 'a'\nhide\n$", 2, 5)
        self.check("class a 'b'-'a' U+12", 1, 17)

    def test_a_wrong_token_behind_else(self):
        self.check("else may\n# $\n  keep $", 3, 8)
        self.check("else may $", 1, 10)
        self.check("else may may $", 1, 14)


class LineErrorsTest(Wrong):
    def test_no_string(self):
        for thing in (None, 5, True, b"else may", ["else may"], ("else may",), {}, read_table("else may")):
            self.check(thing, 0, 0)

    def test_no_line_else(self):
        self.check("", 1, 1)
        self.check("   ", 1, 4)
        self.check("\n", 2, 1)
        self.check("\n\n  # x", 3, 6)
        self.check("class a 'a'", 1, 12)
        self.check("class a 'a'\nkeep a | a", 2, 11)
        self.check("class a 'a'\nkeep a | a  # x", 2, 16)
        self.check("class a 'a'\nkeep a | a\n", 3, 1)
        self.check("class a 'a'\nkeep a | a\n\n   \n", 5, 1)
        self.check("# else may", 1, 11)

    def test_first_tokens(self):
        for token in ("any", "not", "start", "end", "other", "a", "b", "foo", "|", "(", ")", "/", "*", "+", "?", "-", "'a'",
                      "U+0041"):
            self.check_at(f"^{token}")
            self.check_at(f"   ^{token} may")
            self.check(f"{token} a 'a'", 1, 1)

    def test_line_else(self):
        self.check_at("else^")
        self.check_at("else   ^")
        self.check_at("else # x^")
        for token in ("hide", "else", "a", "any", "class", "foo", "|", "'a'"):
            self.check_at(f"else ^{token}")
        self.check_at("else may ^may")
        self.check_at("else may ^|")
        self.check_at("else keep ^'a'")

    def test_tokens_behind_the_line_else(self):
        for token in ("else may", "keep a | a", "class c 'c'", "hide a", "foo", "(", "'a'"):
            self.check(HEAD + "else may\n" + token, 4, 1)
            self.check(HEAD + "else may\n\n# x\n  " + token + "\n$", 6, 3)

    def test_class_behind_other_lines(self):
        self.check(HEAD + "keep a | b\nclass c 'c'\nelse may", 4, 1)
        self.check(HEAD + "hide a\n  class c 'c'\nelse may", 4, 3)
        self.check(HEAD + "hide a\nclass", 4, 1)

    def test_names_of_class_lines(self):
        for name in (*OWN_WORDS, "other"):
            self.check(f"class {name} 'a'", 1, 7)
            self.check(f"class a 'a'\n  class  {name}", 2, 10)
        self.check("class a 'a'\nclass b 'b'\nclass a 'c'", 3, 7)
        self.check("class a 'a'\nclass a", 2, 7)
        for token in ("'a'", "U+0041", "|", "(", "-", "*"):
            self.check(f"class {token} 'a'", 1, 7)
        self.check("class", 1, 6)
        self.check("class  # x", 1, 11)

    def test_characters_of_class_lines(self):
        self.check("class a", 1, 8)
        self.check("class a  # 'a'", 1, 15)
        for token in ("b", "any", "keep", "|", "-", "*", "("):
            self.check(f"class a {token}", 1, 9)
            self.check(f"class a {token} 'a'", 1, 9)
        for token in ("b", "keep", "class", "|", "*", "/"):
            self.check(f"class a 'a' {token}", 1, 13)
            self.check(f"class a 'a' - {token} 'b'", 1, 15)
            self.check(f"class a 'a' - 'b' {token}", 1, 19)
        self.check("class a 'a' - - 'b'", 1, 15)
        self.check("class a 'a' - 'b' - 'c'", 1, 19)
        self.check("class a 'a' -", 1, 14)
        self.check("class a 'a'-  # 'b'", 1, 20)

    def test_stretches_that_descend(self):
        self.check("class a 'b'-'a'", 1, 13)
        self.check("class a 'b' - U+0061 'x'", 1, 15)
        self.check("class a 'x' U+0041-U+0040 -", 1, 20)
        self.check("class a U+10FFFF-U+10FFFE", 1, 18)

    def test_class_lines_that_add_no_character(self):
        self.check("class a 'a'-'c'\nclass b 'b'", 2, 7)
        self.check("class a 'a'\nclass b 'b'\n class  x9  'a' 'b' # x", 3, 9)
        self.check("class a U+0000-U+10FFFF\nclass b 'b'", 2, 7)
        # Only if the line is right otherwise.
        self.check("class a 'a'-'c'\nclass b 'b' |", 2, 13)
        self.check("class a 'a'-'c'\nclass b 'b'-", 2, 13)
        self.check("class a 'a'-'c'\nclass a 'b' |", 2, 7)
        self.assertEqual(len(rows_read("class a 'a'-'c'\nclass b 'b'-'d'")), 2)

    def test_hide_lines(self):
        self.check_at("hide^")
        self.check_at("hide   # a^")
        for token in ("foo", "c", "any", "not", "keep", "hide", "start", "|", "(", "'a'", "*"):
            self.check_at(f"hide ^{token}")
            self.check_at(f"hide a other ^{token} b")
        self.check("hide a\nelse may", 1, 6)
        self.check("class a 'a'\nhide other a b", 2, 14)

    def test_names_in_patterns(self):
        for name in ("c", "foo", "aa", "others"):
            self.check_at(f"keep ^{name} | a")
            self.check_at(f"keep a ^{name} | a")
            self.check_at(f"keep not ^{name} | a")
            self.check_at(f"keep a | b / ^{name}")
            self.check_at(f"keep a | (^{name} )")
        self.check("keep a | a\nclass a 'a'\nelse may", 1, 6)

    def test_rules(self):
        self.check_at("keep^")
        self.check_at("keep a^")
        self.check_at("keep a  # | b^")
        self.check_at("keep start^")
        self.check_at("keep start ^start | a")
        self.check_at("keep a ^start | a")
        self.check_at("keep ^end | a")
        self.check_at("keep a ^end | a")
        self.check_at("keep a | ^start a")
        self.check_at("keep a | ^start")
        self.check_at("keep a | b ^| a")
        self.check_at("keep | ^|")
        self.check_at("keep a | b end ^end")
        self.check_at("keep a | b end ^a")
        self.check_at("keep a | end ^a")
        self.check_at("keep a | end ^*")
        self.check_at("keep ^keep | a")
        self.check_at("keep a ^may | a")
        self.check_at("keep a | ^must")
        self.check_at("keep a | b ^else")
        self.check_at("keep a | b ^hide")
        self.check_at("keep ^class | a")
        self.check_at("keep a ^'a' | b")
        self.check_at("keep a | ^U+0061")
        self.check_at("keep a ^- b | a")

    def test_items(self):
        self.check_at("keep not^")
        self.check_at("keep not ^| a")
        self.check_at("keep a | not ^any")
        self.check_at("keep a | not ^not a")
        self.check_at("keep a | not ^(a)")
        self.check_at("keep a | not ^*")
        self.check_at("keep a | not ^end")
        self.check_at("keep a | not ^'a'")

    def test_repeats(self):
        for sign in "*+?":
            self.check_at(f"keep ^{sign} | a")
            self.check_at(f"keep start ^{sign} | a")
            self.check_at(f"keep a | ^{sign} a")
            self.check_at(f"keep a / ^{sign} | a")
            self.check_at(f"keep (^{sign} a) | a")
            for other in "*+?":
                self.check_at(f"keep a{sign}^{other} | a")
                self.check_at(f"keep (a b){sign} ^{other} | a")
        self.assertEqual(before_read("(a*)+"), ("plus", ("star", A)))

    def test_brackets_and_eithers(self):
        self.check_at("keep ^) | a")
        self.check_at("keep a ^) | a")
        self.check_at("keep (^) | a")
        self.check_at("keep (a ^| a")
        self.check_at("keep (a) ^) | a")
        self.check_at("keep (a / b ^| a)")
        self.check_at("keep a | (b^")
        self.check_at("keep a | (b ^end)")
        self.check_at("keep a | (^")
        self.check_at("keep (^start a) | b")
        self.check_at("keep ^/ a | a")
        self.check_at("keep a / ^| a")
        self.check_at("keep a / ^/ b | a")
        self.check_at("keep a | b /^")
        self.check_at("keep a | b / ^end")
        self.check_at("keep (a / ^) | a")
        self.check_at("keep (^/ a) | a")
        self.check_at("keep a | ^/")

    def test_open_brackets(self):
        self.check_at("keep (((((^(a)))))) | a")
        self.check_at("keep (((((^( | a")
        self.check_at("keep a | (a (b (a (b (a / ^(b))))))")
        self.check_at("keep (((((a))))) | (((((a ^(a) b)))))")
        # Brackets that were closed are not open, neither once nor twice.
        self.check_at("keep (a) (a) (((((^(a)))))) | a")
        self.check_at("keep ((a) (b)) ((a) ((((^(a)))))) | a")
        self.assertEqual(before_read("(a) (((((a)))))"), ("row", (A, A)))
        self.assertEqual(before_read("(((((a) (b)) (a)) (b)) (a))"), before_read("((((a b) a) b) a)"))

    def test_the_sixty_first_item(self):
        for item in ("a", "any", "not a", "other", "b*"):
            self.check_at("keep " + "a " * 60 + f"^{item} | b")
            self.check_at("keep b | " + "a* / " * 10 + "not b " * 50 + f"^{item}")
            self.check_at("keep b | (" + "a " * 60 + f"^{item})")
        self.check_at("keep " + "a " * 60 + "^not | b")
        self.check_at("keep " + "a " * 60 + "^foo | b")
        # Each side has its own sixty.
        self.assertEqual(lines_read("keep " + "a " * 60 + "| " + "a " * 60)[0][2], (False, ("row", (A,) * 60)))

    def test_several_errors_in_one_text(self):
        self.check("class a 'a'\nkeep b | b\nkeep a | $\nelse", 2, 6)
        self.check("class a 'a'\nkeep a b | b\nhide $\nelse", 2, 8)
        self.check("class a 'a'\nkeep a | $\nkeep b | b\nelse", 2, 10)
        self.check("class a 'a'\nclass b 'a'\nclass c 'a'", 2, 7)
        self.check("class a 'a' |\nclass a 'a'\n$", 1, 13)
        self.check("else\nelse may\nelse may", 1, 5)


class OracleTest(unittest.TestCase):
    """Rule lines of all sequences of tokens, against an expression for Python's re over one letter for each token."""

    TOKENS = {"S": "start", "E": "end", "y": "any", "n": "not", "a": "a", "(": "(", ")": ")", "/": "/", "*": "*", "|": "|"}

    def setUp(self):
        item = r"(?:y|a|na)"
        pattern = rf"(?:{item}\*?)+(?:/(?:{item}\*?)+)*"
        for _ in range(4):  # so many brackets may be open
            row = rf"(?:(?:{item}|\({pattern}\))\*?)+"
            pattern = rf"{row}(?:/{row})*"
        self.whole = re.compile(rf"S?(?:{pattern})?\|(?:{pattern})?E?")

    def goes_on(self, tokens):
        """Whether a right line begins so: an item, closing brackets and a sign are all that can be lacking."""
        lacking = tokens.count("(") - tokens.count(")")
        ends = [item + ")" * max(lacking, 0) + sign for item in ("", "a") for sign in ("", "|")]
        return any(self.whole.fullmatch(tokens + end) for end in ends)

    def place(self, tokens):
        """The number of the first wrong token, None if the line is right."""
        for at in range(len(tokens)):
            if not self.goes_on(tokens[:at + 1]):
                return at
        return None if self.whole.fullmatch(tokens) else len(tokens)

    def check(self, tokens):
        words = ["keep", *(self.TOKENS[token] for token in tokens)]
        place = self.place(tokens)
        text = " ".join(words)
        if place is None:
            read_table(HEAD + text + "\nelse may")
            return
        column = len(" ".join(words[:place + 1])) + (2 if place < len(tokens) else 1)
        with self.assertRaises(BadText, msg=text) as caught:
            read_table(HEAD + text + "\nelse may")
        self.assertEqual((caught.exception.line, caught.exception.column), (3, column), text)

    def test_short_lines(self):
        for length in range(5):
            for tokens in itertools.product(self.TOKENS, repeat=length):
                self.check("".join(tokens))

    def test_longer_lines(self):
        chance = random.Random(10)
        for _ in range(4000):
            tokens = ""
            # Mostly tokens that can stand so, so that lines come far.
            while len(tokens) < 12:
                token = chance.choice("SEynaaa(())//**|")
                if tokens.count("(") >= 3 and token == "(":
                    continue
                if self.goes_on(tokens + token) or chance.random() < 0.05:
                    tokens += token
            self.check(tokens[:chance.randrange(5, 13)])


if __name__ == "__main__":
    unittest.main()
