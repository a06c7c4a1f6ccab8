"""Counts texts by how many positions they have at which a cut is possible."""

from cutsanywhere.checks import are_between, check_between
from cutsanywhere.errors import BadThing
from cutsanywhere.names import KEEP

MOST_WEIGHT = 1000000
MOST_LENGTH = 40


def how_many(table, weights, length):
    """How many texts of a length have 0, 1, .. positions with another verdict than keep."""
    if not are_between(weights, len(table.classes.names), MOST_WEIGHT):
        raise BadThing(weights)
    check_between(length, 0, MOST_LENGTH)
    # All counts of one state are kept in one integer, side by side: each is at most the number of all texts.
    width = length * sum(weights).bit_length() + 1
    automata = table.automata()
    classes = _classes_with_weights(automata, weights)
    counts = {0: _with_verdicts(automata.verdicts[0], [1] * len(automata.after), width)}
    for _ in range(length):
        counts = _longer(automata, classes, counts, width)
    total = sum([told[0] for told in counts.values()])
    mask = (1 << width) - 1
    return tuple([total >> width * many & mask for many in range(length + 2)])


def _classes_with_weights(automata, weights):
    """The numbers of classes with their weights: for those that lead all states alike, one with all their weights."""
    numbers = {}
    totals = {}
    for number, weight in enumerate(weights):
        steps = (tuple([ways[number] for ways in automata.before]), tuple([ways[number] for ways in automata.after]))
        numbers.setdefault(steps, number)
        totals[steps] = totals.get(steps, 0) + weight
    return [(numbers[steps], total) for steps, total in totals.items() if total > 0]


def _longer(automata, classes, counts, width):
    """The counts for one more character.

    Counts are told for the state before a place, and for each state after it that may come true later: a character
    leads from a state after the place ahead of it to just those that lead back by it.
    """
    found = {}
    for number, weight in classes:
        columns = [ways[number] for ways in automata.after]
        for state, told in _moved(automata.before, number, counts).items():
            late = [told[after] * weight for after in columns]
            found[state] = _added(found[state], late) if state in found else late
    return {state: _with_verdicts(automata.verdicts[state], told, width) for state, told in found.items()}


def _moved(ways, number, counts):
    """The counts, added up by the states to which a class leads."""
    found = {}
    for state, told in counts.items():
        to = ways[state][number]
        found[to] = _added(found[to], told) if to in found else told
    return found


def _added(one, other):
    return [count + late for count, late in zip(one, other)]


def _with_verdicts(verdicts, counts, width):
    """The counts with the position of these verdicts: where it is none to keep, each stands for one position more."""
    return [count if verdict == KEEP else count << width for verdict, count in zip(verdicts, counts)]
