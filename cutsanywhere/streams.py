"""Cuts texts that arrive piece by piece."""

from cutsanywhere.errors import BadThing
from cutsanywhere.signs import is_integer
from cutsanywhere.walks import rows_to


class Stream:
    """A text that arrives in pieces, of which each verdict is told as soon as it is decided."""

    def __init__(self, table):
        automata = table.automata()
        self.count = 0
        self.waiting = (0,)
        self._classes = table.classes
        self._automata = automata
        self._columns = list(zip(*automata.after))
        self._state = 0
        # The positions that wait, by what their verdicts are for each state of what is still to come.
        self._places = {automata.verdicts[0]: [0]}
        self._is_over = False

    def feed(self, text):
        """Take the next piece; returns the pairs (position, verdict) that are decided now."""
        if self._is_over:
            raise BadThing(text)
        told = self._take_decided()
        for number in self._classes.row_of(text):
            self._step(number)
            told.extend(self._take_decided())
        self._set_waiting()
        return sorted(told)

    def _step(self, number):
        """Take one character of this class."""
        self.count += 1
        self._state = self._automata.before[self._state][number]
        places = {}
        for verdicts, positions in self._places.items():
            seen = tuple([verdicts[state] for state in self._columns[number]])
            if seen in places:
                places[seen].extend(positions)
            else:
                places[seen] = positions
        places.setdefault(self._automata.verdicts[self._state], []).append(self.count)
        self._places = places

    def _take_decided(self):
        """The positions of which the verdict is the same whatever comes; they wait no longer."""
        told = []
        places = {}
        for verdicts, positions in self._places.items():
            if verdicts.count(verdicts[0]) == len(verdicts):
                told.extend([(position, verdicts[0]) for position in positions])
            else:
                places[verdicts] = positions
        self._places = places
        return told

    def _set_waiting(self):
        waiting = []
        for positions in self._places.values():
            waiting.extend(positions)
        self.waiting = tuple(sorted(waiting))

    def end(self):
        """The text ends here; returns the pairs (position, verdict) of the rest."""
        if self._is_over:
            raise BadThing("end")
        told = []
        for verdicts, positions in self._places.items():
            told.extend([(position, verdicts[0]) for position in positions])
        self._places = {}
        self._is_over = True
        self._set_waiting()
        return sorted(told)

    def two_ways(self, position):
        """Two rows with which the text may go on and end, so that the verdict at a waiting position is unlike."""
        if is_integer(position):
            for verdicts, positions in self._places.items():
                if position in positions:
                    return self._two_rows(verdicts, position)
        raise BadThing(position)

    def _two_rows(self, verdicts, position):
        rows = rows_to(self._automata.after)
        for state, verdict in enumerate(verdicts):
            if verdict != verdicts[0]:
                return ((), rows[state][::-1])
        # Ahead of the first piece, a position that is decided is not told yet.
        raise BadThing(position)
