"""The words of tables: names of classes, own words, verdicts."""

SMALL_LETTERS = "abcdefghijklmnopqrstuvwxyz"
WORD_SIGNS = "abcdefghijklmnopqrstuvwxyz0123456789_"
LONGEST_WORD = 30
OTHER = "other"
KEEP = "keep"
MUST = "must"
VERDICTS = ("keep", "may", "must")
OWN_WORDS = ("class", "keep", "may", "must", "hide", "else", "any", "not", "start", "end")


def is_name(thing):
    """Whether it can be the name of a class: of a row, or other."""
    return is_word(thing) and thing not in OWN_WORDS


def is_word(thing):
    """Whether it is a small letter, then small letters, figures and _, not too many of them."""
    if not isinstance(thing, str) or not 0 < len(thing) <= LONGEST_WORD:
        return False
    return thing[0] in SMALL_LETTERS and word_end(thing, 0) == len(thing)


def word_end(text, at):
    """Where the letters, figures and _ from a place on end."""
    while at < len(text) and text[at] in WORD_SIGNS:
        at += 1
    return at
