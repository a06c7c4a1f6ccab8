"""Samples: the texts of three tables, for characters as people see them, for words, and for the ends of lines."""

CHARACTERS = """class letter 'a'-'z'
class mark U+0300-U+0344
class flag U+1F1E6-U+1F1FF
keep letter mark* | mark
keep start (any* not flag)? (flag flag)* flag | flag  # flags go in pairs, from the left of a row of flags
else may"""

# Words are seen through their marks; no unit of the first table is parted.
WORDS = """class letter 'a'-'z'
class figure '0'-'9'
class quote U+0027
class stop '.'
class mark U+0300-U+0344
class flag U+1F1E6-U+1F1FF
keep any | mark
keep flag | flag
hide mark
keep letter | letter
keep letter quote | letter
keep letter | quote letter
keep figure | figure
keep figure stop | figure
keep figure | stop figure
else may"""

LINES = """class feed U+000A
class blank ' '
class mark U+0300-U+0344
must feed | any
keep | feed / blank / mark
may blank | any
else keep"""


def character_text():
    """The text of a table that keeps marks with their letters, and flags in pairs."""
    return CHARACTERS


def word_text():
    """The text of a table that keeps words and numbers together."""
    return WORDS


def line_text():
    """The text of a table that tells where a line must end, and where it may."""
    return LINES
