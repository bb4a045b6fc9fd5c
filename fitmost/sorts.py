"""Sorts of things: things are of one sort where they are of the same ones of some kinds."""

from fitmost.things import copied, is_of


def marks(web, thing, kinds):
    """A tuple with a 1 for each kind of which a thing is, a 0 for each other one."""
    return tuple([1 if is_of(web, thing, kind) else 0 for kind in kinds])


def telling_numbers(kinds):
    """Numbers among which there is one of each sort of numbers."""
    # A stretch of numbers of one sort is all numbers, or begins or ends at an end of a span, or beside one.
    ends = [number for kind in kinds for low, high in kind[2] for number in low + high]
    return [0] + [number + step for number in ends for step in (-1, 0, 1)]


def plain_sorts(web, kinds):
    """The sorts of all things but lists: tuples (marks, thing), rising."""
    found = {}
    for thing in [None] + telling_numbers(kinds) + web.names():
        found.setdefault(marks(web, thing, kinds), thing)
    return [(told, found[told]) for told in sorted(found)]


def unlike_inners(kinds):
    """All inners of some kinds, each once."""
    told = []
    for kind in kinds:
        told = told + [inner for inner in kind[3] if inner not in told]
    return told


class Level:
    """Kinds, spoken of by their numbers, and below them all their inners as a level of its own."""

    def __init__(self, web, kinds):
        inners = unlike_inners(kinds)
        self.plain = plain_sorts(web, kinds)
        self.whole = [kind[0] for kind in kinds]
        self.ways = [[inners.index(inner) for inner in kind[3]] for kind in kinds]
        self.below = Level(web, inners) if inners else None
        self.known = {}

    def thing_of(self, ones, others):
        """A list of one thing that is of all the ones and of none of the others, or [] where there is none."""
        asked = (tuple(ones), tuple(others))
        if asked not in self.known:
            self.known[asked] = self.plain_of(ones, others) or self.list_of(ones, others)
        return self.known[asked]

    def plain_of(self, ones, others):
        """As thing_of, but no list."""
        for told, thing in self.plain:
            if all([told[one] for one in ones]) and not any([told[other] for other in others]):
                return [thing]
        return []

    def list_of(self, ones, others):
        """As thing_of, but a list alone, where a kind of the level has an inner."""
        if self.below is None or any([self.whole[other] for other in others]):
            return []
        ways = [self.ways[one] for one in ones if not self.whole[one]]
        outside = [inner for other in others for inner in self.ways[other]]
        return self.below.things_of([], ways, outside)

    def things_of(self, ones, ways, others):
        """A list of one list, or []: all its things are of the ones and of a kind of each way, not all of any other."""
        things = []
        for other in others:
            found = self.thing_of(ones, [other])
            if not found:
                return []
            if found[0] not in things:
                things.append(found[0])
        if not ways:
            return [things]
        for one in self.tried(ones, ways[0]):
            found = self.things_of(sorted(set(ones + [one])), ways[1:], others)
            if found:
                return found
        return []

    def tried(self, ones, way):
        """The kinds of a way that are tried: one alone, where it has all things that are of all the ones."""
        return [one for one in way if not self.thing_of(ones, [one])][:1] or way

    def thing_with(self, wanted):
        """A list of one thing that has the marks wanted for the first ones of the kinds, or []."""
        ones = [at for at, mark in enumerate(wanted) if mark]
        return self.thing_of(ones, [at for at, mark in enumerate(wanted) if not mark])


def sorts(web, kinds):
    """A list of tuples (marks, thing), rising, for each marks that some thing has, with such a thing."""
    level = Level(web, kinds)
    reached = [()]
    for kind in kinds:
        reached = [wanted + (mark,) for wanted in reached for mark in (0, 1) if level.thing_with(wanted + (mark,))]
    return [(wanted, copied(level.thing_with(wanted)[0])) for wanted in reached]
