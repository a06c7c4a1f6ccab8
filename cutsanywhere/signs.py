"""Code points, their texts, and the characters that the package can write."""

from cutsanywhere.errors import BadThing
from cutsanywhere.letters import WRITABLE

LAST_POINT = 1114111
GAP_FIRST = 55296
GAP_LAST = 57343
FIGURES = "0123456789ABCDEF"


def is_integer(thing):
    """Whether it is an integer: True and False are none."""
    return isinstance(thing, int) and not isinstance(thing, bool)


def is_point(thing):
    """Whether it is a code point."""
    if not is_integer(thing):
        return False
    return 0 <= thing < GAP_FIRST or GAP_LAST < thing <= LAST_POINT


def is_text(thing):
    """Whether it is a text: a string of characters with code points alone."""
    if not isinstance(thing, str):
        return False
    for character in thing:
        if not is_point(ord(character)):
            return False
    return True


def known_points():
    """The stretches of the code points that the package can write."""
    return tuple([(first, first + len(signs) - 1) for first, signs in WRITABLE])


def points_of(text):
    """The code points of a text's characters."""
    return tuple([ord(character) for character in text])


def text_of(points):
    """The text of code points that the package can write."""
    characters = []
    for point in points:
        character = _character(point)
        if character is None:
            raise BadThing(point)
        characters.append(character)
    return "".join(characters)


def _character(point):
    if is_point(point):
        for first, signs in WRITABLE:
            if first <= point < first + len(signs):
                return signs[point - first]
    return None


def point_text(point):
    """How a code point is told in texts: U+ and four figures or more."""
    return f"U+{point:04X}"


def point_by(figures):
    """The code point of one to six hexadecimal figures, None if there is none."""
    if not 1 <= len(figures) <= 6:
        return None
    for figure in figures:
        if figure not in FIGURES:
            return None
    point = int(figures, 16)
    return point if is_point(point) else None
