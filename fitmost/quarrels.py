"""Quarrels of bodies, and what settles a row of kinds, told ahead of any call."""

from fitmost.bodies import picked
from fitmost.errors import TooMany
from fitmost.kinds import any_kind, none_kind
from fitmost.sorts import sorts
from fitmost.things import copied

MOST_LOOKS = 6


def looks(bodies):
    """The tuples (place, kind) of bodies, rising, each once, but any and none."""
    told = []
    for look in sorted([(place, kind) for name, row in bodies for place, kind in enumerate(row)]):
        if look[1] not in (any_kind(), none_kind()) and look not in told:
            told.append(look)
    return told


def refuse_too_many(bodies):
    """Raise TooMany where bodies have more looks than are gone through."""
    if len(looks(bodies)) > MOST_LOOKS:
        raise TooMany(f"there are {len(looks(bodies))} looks")


def things_at(web, bodies, place, kind):
    """Things of a kind, one of each sort that the bodies tell apart at a place."""
    kinds = [other for at, other in looks(bodies) if at == place]
    return [thing for told, thing in sorts(web, kinds + [kind]) if told[-1]]


def each_with_each(choices):
    """All lists of one of the first choices, one of the second, and so on, rising by their numbers."""
    lists = [[]]
    for things in choices:
        lists = [begun + [thing] for begun in lists for thing in things]
    return lists


def calls_of(web, bodies, row):
    """Calls of a row of kinds, one of each sort that the bodies tell apart."""
    return each_with_each([things_at(web, bodies, place, kind) for place, kind in enumerate(row)])


def places_of(bodies):
    """The numbers of the places that bodies have."""
    return list(range(len(bodies[0][1])))


def quarrels(web, bodies):
    """The tuples (one, other, call) of bodies, rising, for each two names that quarrel at some call; or TooMany."""
    refuse_too_many(bodies)
    found = {}
    for call in calls_of(web, bodies, [any_kind() for place in places_of(bodies)]):
        told = picked(web, bodies, call)
        if told[0] == "quarrel":
            found.setdefault(told[1:], call)
    return [(one, other, copied(found[(one, other)])) for one, other in sorted(found)]


def settled(web, bodies, row):
    """What settles a row: ("none", place, call), ("quarrel", one, other, call) or ("all", names); or TooMany."""
    refuse_too_many(bodies)
    quarrel = ()
    names = []
    for call in calls_of(web, bodies, row):
        told = picked(web, bodies, call)
        if told[0] == "none":
            return told + (copied(call),)
        if told[0] == "quarrel":
            quarrel = quarrel or told + (copied(call),)
        else:
            names.append(told[1])
    return quarrel or ("all", sorted(set(names)))
