"""Kinds: tuples (whole, names, spans, inners), in one form for all that have the same things."""

from fitmost.spans import spans_apart, spans_formed, spans_met


def any_kind():
    """The kind of which every thing is."""
    return (True, (), (), ())


def none_kind():
    """The kind of which there is no thing."""
    return (False, (), (), ())


def names_apart(web, ones, others):
    """A list of one of the ones that is beneath none of the others, or [] where there is none."""
    for name in ones:
        if not web.beneath_some(name, others):
            return [name]
    return []


def inner_apart(web, inner, others):
    """A list of one list, of things of the inner, that is of none of the others as an inner, or []."""
    things = []
    for other in others:
        found = apart(web, inner, other)
        if not found:
            return []
        # Each of the others is left by a thing of its own; one that leaves several stands once.
        if found[0] not in things:
            things.append(found[0])
    return [things]


def inners_apart(web, ones, others):
    """A list of one list that is of one of the ones as inners, and of none of the others, or []."""
    for inner in ones:
        found = inner_apart(web, inner, others)
        if found:
            return found
    return []


def apart(web, one, other):
    """[] where one lies within the other, else a list of one thing, of the one and not of the other."""
    if other[0]:
        return []
    if one[0]:
        # The blank is of any alone.
        return [None]
    return (
        names_apart(web, one[1], other[1])
        or spans_apart(one[2], other[2])
        or inners_apart(web, one[3], other[3])
    )


def within(web, one, other):
    """Whether each thing of the one kind is of the other."""
    return not apart(web, one, other)


def within_another(web, inner, inners):
    """Whether an inner lies within one of the inners that is unlike it."""
    for other in inners:
        if other != inner and within(web, inner, other):
            return True
    return False


def outermost(web, inners):
    """Those of some inners in one form, in order, each once, that lie within no other one."""
    told = []
    for inner in sorted(inners):
        if told[-1:] != [inner]:
            told.append(inner)
    return tuple([inner for inner in told if not within_another(web, inner, told)])


def kind_of(web, names, spans, inners):
    """The kind of any names and spans, and of inners that are in one form."""
    return (False, tuple(web.tops(names)), spans_formed(spans), outermost(web, inners))


def names_in(kind):
    """A list of all names in a kind, within however many inners."""
    names = list(kind[1])
    for inner in kind[3]:
        names = names + names_in(inner)
    return names


def in_one_form(web, kind):
    """The kind in one form that has a kind's things."""
    whole, names, spans, inners = kind
    return any_kind() if whole else formed(web, names, spans, inners)


def formed(web, names, spans, inners):
    """The kind, in one form, of any names, spans and inners."""
    return kind_of(web, names, spans, [in_one_form(web, inner) for inner in inners])


def joined(web, one, other):
    """The kind of all things that are of one of two kinds."""
    if one[0] or other[0]:
        return any_kind()
    return kind_of(web, one[1] + other[1], one[2] + other[2], one[3] + other[3])


def met(web, one, other):
    """The kind of all things that are of both kinds."""
    if one[0]:
        return other
    if other[0]:
        return one
    # A list is of both where its things are of an inner of the one, and of an inner of the other.
    inners = [met(web, inner, outer) for inner in one[3] for outer in other[3]]
    return kind_of(web, web.shared(one[1], other[1]), spans_met(one[2], other[2]), inners)
