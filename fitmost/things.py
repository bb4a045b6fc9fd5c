"""Things: whole numbers, names of kinds, None for the blank, and lists of things."""

from fitmost.kinds import any_kind, formed, joined, none_kind
from fitmost.spans import spans_have


def list_is_of(web, things, inner):
    """Whether each of some things is of an inner."""
    return all([is_of(web, thing, inner) for thing in things])


def is_of(web, thing, kind):
    """Whether a thing is of a kind."""
    whole, names, spans, inners = kind
    if whole:
        return True
    if isinstance(thing, list):
        return any([list_is_of(web, thing, inner) for inner in inners])
    if isinstance(thing, str):
        return web.beneath_some(thing, names)
    if isinstance(thing, int) and not isinstance(thing, bool):
        return spans_have(spans, thing)
    return False


def own_kind(web, thing):
    """The kind of which a thing is that lies within every kind of which it is."""
    if thing is None:
        return any_kind()
    if isinstance(thing, str):
        return formed(web, [thing], [], [])
    if isinstance(thing, int):
        return formed(web, [], [((thing,), (thing,))], [])
    inner = none_kind()
    for part in thing:
        inner = joined(web, inner, own_kind(web, part))
    return formed(web, [], [], [inner])


def copied(thing):
    """A thing like another one, with lists of its own."""
    return [copied(part) for part in thing] if isinstance(thing, list) else thing
