"""Changes of texts: what they skip, put in and take out; done, taken back, composed, and crossed."""

from cutsanywhere.checks import check_stretch
from cutsanywhere.errors import BadThing
from cutsanywhere.parts import PUT, SKIP, TAKE, Parts, size_of
from cutsanywhere.signs import is_integer, is_text


def is_change(thing):
    """Whether it is a change in the one form that changes have."""
    if not isinstance(thing, tuple):
        return False
    ahead = None
    for part in thing:
        if not _is_part(part):
            return False
        if part[0] == ahead or (part[0] == PUT and ahead == TAKE):
            return False
        ahead = part[0]
    return True


def _is_part(thing):
    if not isinstance(thing, tuple) or len(thing) != 2:
        return False
    kind, told = thing
    if kind == SKIP:
        return is_integer(told) and told > 0
    return kind in (PUT, TAKE) and is_text(told) and told != ""


def in_form(parts):
    """The change of any such parts: between two skips, first what is put in, then what is taken out."""
    found = []
    skipped = 0
    put = ""
    taken = ""
    for kind, told in parts:
        if kind == PUT:
            put = put + told
        elif kind == TAKE:
            taken = taken + told
        elif told > 0:
            if put or taken:
                found.extend(_told_parts(skipped, put, taken))
                skipped = 0
                put = ""
                taken = ""
            skipped = skipped + told
    found.extend(_told_parts(skipped, put, taken))
    return tuple(found)


def _told_parts(skipped, put, taken):
    """These parts, without those that do nothing."""
    return [part for part in ((SKIP, skipped), (PUT, put), (TAKE, taken)) if size_of(part) > 0]


def changed(text, change):
    """A text behind a change."""
    pieces = []
    at = 0
    for kind, told in change:
        if kind == PUT:
            pieces.append(told)
        elif kind == SKIP:
            pieces.append(text[at:at + told])
            at += told
        else:
            if text[at:at + len(told)] != told:
                raise BadThing(change)
            at += len(told)
    if at != len(text):
        raise BadThing(change)
    return "".join(pieces)


def size_before(change):
    """How long the texts are ahead of a change."""
    return sum([size_of(part) for part in change if part[0] != PUT])


def size_after(change):
    """How long the texts are behind a change."""
    return sum([size_of(part) for part in change if part[0] != TAKE])


def change_at(text, position, many, piece):
    """The change that puts a piece in the place of so many characters."""
    check_stretch(position, many, len(text))
    end = position + many
    return in_form([(SKIP, position), (PUT, piece), (TAKE, text[position:end]), (SKIP, len(text) - end)])


def undone(change):
    """The change that takes a change back."""
    against = {SKIP: SKIP, PUT: TAKE, TAKE: PUT}
    return in_form([(against[kind], told) for kind, told in change])


def composed(one, other):
    """The change that does the one and then the other."""
    if size_after(one) != size_before(other):
        raise BadThing(other)
    ones = Parts(one)
    others = Parts(other)
    parts = []
    while ones.kind() is not None or others.kind() is not None:
        if ones.kind() == TAKE:
            parts.append(ones.take())
        elif others.kind() == PUT:
            parts.append(others.take())
        else:
            # Both tell of the text between them: the one left or put these characters there.
            many = min(ones.size(), others.size())
            part = ones.take_first(many)
            late = others.take_first(many)
            if late[0] == SKIP:
                parts.append(part)
            elif part[0] == SKIP:
                parts.append(late)
            elif part[1] != late[1]:
                raise BadThing(other)
    return in_form(parts)


def moved_place(position, change):
    """Where a position of the text is behind a change."""
    moved = 0
    at = 0  # the position of the text to which the parts so far lead
    for part in change:
        if part[0] == PUT:
            if at < position:
                moved += size_of(part)
        else:
            if part[0] == SKIP and at < position:
                moved += min(size_of(part), position - at)
            at += size_of(part)
    return moved


def crossed(one, other):
    """Two changes of one text, each for the text behind the other one: (late, more), late is the one's."""
    if size_before(one) != size_before(other):
        raise BadThing(other)
    ones = Parts(one)
    others = Parts(other)
    late = []
    more = []
    while ones.kind() is not None or others.kind() is not None:
        if ones.kind() == PUT:
            late.append(ones.take())
            more.append((SKIP, size_of(late[-1])))
        elif others.kind() == PUT:
            more.append(others.take())
            late.append((SKIP, size_of(more[-1])))
        else:
            many = min(ones.size(), others.size())
            part = ones.take_first(many)
            other_part = others.take_first(many)
            if part[0] == TAKE and other_part[0] == TAKE and part[1] != other_part[1]:
                raise BadThing(other)
            if other_part[0] == SKIP:
                late.append(part)
            if part[0] == SKIP:
                more.append(other_part)
    return (in_form(late), in_form(more))
