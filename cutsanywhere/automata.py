"""Automata: the kinds of rows before and after a position, with what is told between them."""


class Automata:
    """The states of rows before and after, the steps between states, and what is told between two states."""

    def __init__(self, before, after, verdicts):
        self.before = before
        self.after = after
        self.verdicts = verdicts

    def state_before(self, row):
        """The state of a row that stands before."""
        state = 0
        for number in row:
            state = self.before[state][number]
        return state

    def state_after(self, row):
        """The state of a row that stands after: it is read from its far end."""
        state = 0
        for number in row[::-1]:
            state = self.after[state][number]
        return state

    def verdict(self, before, after):
        """What is told between two rows."""
        return self.verdicts[self.state_before(before)][self.state_after(after)]


def mirrored(automata):
    """The automata of rows that are turned about: what stood before stands after."""
    return Automata(automata.after, automata.before, tuple(zip(*automata.verdicts)))


def first_in(numbers):
    """The least number in a set of numbers that is told as bits, -1 for the empty one."""
    return (numbers & -numbers).bit_length() - 1


def automata_of(befores, afters, answers):
    """The automata of two crowds; answers has one for each rule, and behind them the one where no rule fits."""
    before_fits, before_steps = reached(befores)
    after_fits, after_steps = reached(afters)
    before_parts = _alike(_told(before_fits, after_fits, answers), before_steps)
    after_parts = _alike(_told(after_fits, before_fits, answers), after_steps)
    before_firsts = _firsts(before_parts)
    after_firsts = _firsts(after_parts)
    verdicts = []
    for x in before_firsts:
        verdicts.append(tuple([answers[first_in(before_fits[x] & after_fits[y])] for y in after_firsts]))
    return Automata(
        _steps_of_parts(before_parts, before_steps, before_firsts),
        _steps_of_parts(after_parts, after_steps, after_firsts),
        tuple(verdicts),
    )


def reached(crowd):
    """For all states that rows reach, in the order in which they do: the sides that fit, and the steps."""
    states = [crowd.begin]
    numbers = {crowd.begin: 0}
    steps = []
    while len(steps) < len(states):
        found = crowd.steps(states[len(steps)])
        for state in found:
            if state not in numbers:
                numbers[state] = len(states)
                states.append(state)
        steps.append([numbers[state] for state in found])
    return [crowd.fitting(state) for state in states], steps


def _told(fits, other_fits, answers):
    """A number for each state: equal ones where the same is told, whatever the state of the other side is."""
    others = sorted(set(other_fits))
    told = {}
    for fit in fits:
        if fit not in told:
            told[fit] = tuple([answers[first_in(fit & other)] for other in others])
    numbers = dict(zip(list(told), _numbered(list(told.values()))))
    return [numbers[fit] for fit in fits]


def _numbered(things):
    """A number for each thing, the same for equal ones, in the order in which they come."""
    numbers = {}
    found = []
    for thing in things:
        if thing not in numbers:
            numbers[thing] = len(numbers)
        found.append(numbers[thing])
    return found


def _alike(told, steps):
    """The number of the part of each state: of states that are told the same, and step to the same parts."""
    parts = _numbered(told)
    while True:
        finer = _numbered([(part, tuple([parts[to] for to in ways])) for part, ways in zip(parts, steps)])
        if max(finer) == max(parts):
            return parts
        parts = finer


def _firsts(parts):
    """The first state of each part."""
    firsts = []
    for state, part in enumerate(parts):
        if part == len(firsts):
            firsts.append(state)
    return firsts


def _steps_of_parts(parts, steps, firsts):
    """The steps between parts.

    States come in the order in which they are reached, and parts in the order of their first states; so the parts,
    too, are numbered in the order in which they are reached.
    """
    return tuple([tuple([parts[to] for to in steps[state]]) for state in firsts])
