"""The errors that the package raises."""


class CutError(ValueError):
    """The base of all errors of the package."""


class BadText(CutError):
    """A text that is not as it must be, from this line and column on."""

    def __init__(self, line, column):
        super().__init__(f"wrong at line {line}, column {column}")
        self.line = line
        self.column = column


class BadTable(CutError):
    """A row of a class map, or a line of a table, that is not as it must be."""

    def __init__(self, name, why):
        super().__init__(f"wrong in a table: {why}")
        self.name = name
        self.why = why


class BadThing(CutError):
    """A value that is not as it must be."""

    # The message does not show the thing: some values cannot be shown.
    def __init__(self, thing):
        super().__init__("not a value as it must be here")
        self.thing = thing


class TooMany(CutError):
    """More of something than the package goes into."""

    def __init__(self, count):
        super().__init__(f"too many: {count}")
        self.count = count
