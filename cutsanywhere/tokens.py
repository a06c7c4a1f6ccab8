"""Tokens: what the lines of tables' texts are made of."""

from cutsanywhere.errors import BadText
from cutsanywhere.names import LONGEST_WORD, SMALL_LETTERS, word_end
from cutsanywhere.signs import FIGURES, is_text, point_by

SIGNS = "|()/*+?-"
LEAST_FIGURES = 4


class Line:
    """The tokens of one line, read one after the other.

    A token is (kind, told, column): kind is word, point, sign, or end, which stands behind the last token.
    """

    def __init__(self, number, text):
        self.number = number
        self.tokens = _tokens_of(number, text)
        self.at = 0

    def kind(self):
        """The kind of the token that is next."""
        return self.tokens[self.at][0]

    def told(self):
        """What the next token tells: a word, a code point, a sign."""
        return self.tokens[self.at][1]

    def is_word(self, words):
        """Whether the next token is one of these words."""
        return self.kind() == "word" and self.told() in words

    def is_sign(self, signs):
        """Whether the next token is one of these signs."""
        return self.kind() == "sign" and self.told() in signs

    def take(self):
        """Go on behind the next token, and return what it tells."""
        told = self.told()
        self.at += 1
        return told

    def take_word(self, words):
        """Go on behind one of these words; another token is wrong."""
        if not self.is_word(words):
            self.fail(self.at)
        return self.take()

    def take_sign(self, sign):
        """Go on behind this sign; another token is wrong."""
        if not self.is_sign(sign):
            self.fail(self.at)
        self.take()

    def take_end(self):
        """See to it that no token is left."""
        if self.kind() != "end":
            self.fail(self.at)

    def fail(self, at):
        """Tell that the token at this place is wrong."""
        raise BadText(self.number, self.tokens[at][2])


def _tokens_of(number, text):
    tokens = []
    at = 0
    while at < len(text) and text[at] != "#":
        if text[at] == " ":
            at += 1
        else:
            token = _token_at(text, at)
            if token is None:
                raise BadText(number, at + 1)
            kind, told, end = token
            tokens.append((kind, told, at + 1))
            at = end
    tokens.append(("end", None, len(text) + 1))
    return tokens


def _token_at(text, at):
    """The token that begins at a place, as (kind, told, end), None if none begins there."""
    if text[at] in SIGNS:
        return "sign", text[at], at + 1
    if text[at] in SMALL_LETTERS:
        return _word_at(text, at)
    if text[at] == "'":
        return _quoted_at(text, at)
    if text[at:at + 2] == "U+":
        return _figures_at(text, at + 2)
    return None


def _word_at(text, at):
    end = word_end(text, at)
    if end - at > LONGEST_WORD:
        return None
    return "word", text[at:end], end


def _quoted_at(text, at):
    if text[at + 2:at + 3] != "'" or not is_text(text[at + 1]):
        return None
    return "point", ord(text[at + 1]), at + 3


def _figures_at(text, at):
    end = at
    while end < len(text) and text[end] in FIGURES:
        end += 1
    point = point_by(text[at:end])
    if end - at < LEAST_FIGURES or point is None:
        return None
    return "point", point, end
