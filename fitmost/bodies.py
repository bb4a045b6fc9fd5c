"""Bodies: tuples (name, row of kinds), and which of them a call takes."""

from fitmost.errors import Alike, NoPlaces
from fitmost.kinds import within
from fitmost.names import refuse_no_names, refuse_taken
from fitmost.things import is_of

MOST_PLACES = 3


def refuse_no_places(rows):
    """Raise NoPlaces where a row has no place, too many, or not as many as the first one."""
    for row in rows:
        if len(row) < 1 or len(row) > MOST_PLACES or len(row) != len(rows[0]):
            raise NoPlaces(f"a row has {len(row)} places, the first one {len(rows[0])}")


def refuse_alike(names, rows):
    """Raise Alike where two rows are equal."""
    for at, row in enumerate(rows):
        if row in rows[:at]:
            raise Alike(names[rows.index(row)], names[at])


def looked_over(bodies):
    """None; but bodies are refused with NoName, Taken, NoPlaces or Alike."""
    names = [name for name, row in bodies]
    rows = [tuple(row) for name, row in bodies]
    refuse_no_names(names)
    refuse_taken(names)
    refuse_no_places(rows)
    refuse_alike(names, rows)


def places_fitted(web, body, call):
    """How many places, from the first on, have kinds of which the call's things are."""
    for place, thing in enumerate(call):
        if not is_of(web, thing, body[1][place]):
            return place
    return len(call)


def fits(web, body, call):
    """Whether each thing of a call is of the body's kind at its place."""
    return places_fitted(web, body, call) == len(call)


def closer(web, one, other):
    """Whether at each place the one body's kind lies within the other's, and their rows are unlike."""
    if tuple(one[1]) == tuple(other[1]):
        return False
    return all([within(web, kind, wider) for kind, wider in zip(one[1], other[1])])


def none_closer(web, body, bodies):
    """Whether none of some bodies is closer than a body."""
    for other in bodies:
        if closer(web, other, body):
            return False
    return True


def picked(web, bodies, call):
    """What a call takes: ("one", name), ("quarrel", one, other) or ("none", place)."""
    fitting = [body for body in bodies if fits(web, body, call)]
    if not fitting:
        return ("none", max([places_fitted(web, body, call) for body in bodies], default=0))
    # Rows are unlike, so a body than which none is closer is, if it alone is so, closer than each other one.
    least = [name for name, row in fitting if none_closer(web, (name, row), fitting)]
    return ("one", least[0]) if len(least) == 1 else ("quarrel", least[0], least[1])
