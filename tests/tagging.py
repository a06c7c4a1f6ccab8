"""Changes told a second time, for the tests: texts of characters that know where they come from.

A tagged text is a list of pairs (tag, character), no tag twice: two such texts have a character in common if both have
its tag.
"""

import itertools


def tagged(name, text):
    return [((name, at), character) for at, character in enumerate(text)]


def untagged(tags):
    return "".join(character for _, character in tags)


def done(tags, change, name):
    """A tagged text behind a change; what is put in gets this name."""
    found, at, many = [], 0, 0
    for kind, told in change:
        if kind == "put":
            found += [((name, many + k), character) for k, character in enumerate(told)]
            many += len(told)
        elif kind == "skip":
            found += tags[at:at + told]
            at += told
        else:
            at += len(told)
    return found


def change_by(before, after):
    """The change of one tagged text into another one: what both have is skipped, and stands there in one order."""
    kept = [pair for pair in before if pair in after]
    assert kept == [pair for pair in after if pair in before]
    parts, places = [], [0, 0]
    for pair in [*kept, None]:
        ends = [len(tags) if pair is None else tags.index(pair) for tags in (before, after)]
        parts += [("put", untagged(after[places[1]:ends[1]])), ("take", untagged(before[places[0]:ends[0]])), ("skip", pair and 1)]
        places = [end + 1 for end in ends]
    found = []
    for kind, told in parts:
        if kind == "skip" and told and found and found[-1][0] == "skip":
            found[-1] = ("skip", found[-1][1] + 1)
        elif told:
            found.append((kind, told))
    return tuple(found)


def changes_of(text, pieces):
    """All changes of a text that put one of these pieces, or nothing, in at each place."""
    for keeps in itertools.product((True, False), repeat=len(text)):
        for puts in itertools.product(("", *pieces), repeat=len(text) + 1):
            after = []
            for at, put in enumerate(puts):
                after += tagged(("put", at), put)
                after += [pair for pair in tagged("text", text)[at:at + 1] if keeps[at]]
            # What is put in on both sides of what is taken out stands there as one piece: each change once.
            if all(keeps[at - 1] or not put for at, put in enumerate(puts) if at):
                yield change_by(tagged("text", text), after)


def change_by_chance(chance, text, letters):
    """A change of a text by chance."""
    after = []
    for pair in [*tagged("text", text), None]:
        if chance.random() < 0.25:
            put = "".join(chance.choice(letters) for _ in range(chance.randrange(1, 4)))
            after += tagged(("put", len(after)), put)
        if pair and chance.random() < 0.7:
            after.append(pair)
    return change_by(tagged("text", text), after)
