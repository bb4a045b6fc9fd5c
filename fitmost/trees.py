"""Trees of looks: which answer a call has, by asking as few looks as can be."""

from fitmost.kinds import any_kind
from fitmost.quarrels import calls_of, looks, places_of, refuse_too_many
from fitmost.tables import answer
from fitmost.things import is_of


def walked(web, tree, call):
    """The answer to which a call comes in any tree, and the list of what its looks came to, in turn."""
    said = []
    while tree[0] == "look":
        place, kind, yes, no = tree[1:]
        said.append(is_of(web, call[place], kind))
        tree = yes if said[-1] else no
    return (tree[1], said)


def depth(tree):
    """The greatest number of looks on a way down in a tree."""
    level = [tree]
    many = -1
    while level:
        level = [below for some in level if some[0] == "look" for below in some[3:]]
        many += 1
    return many


class Ground:
    """All that trees of some bodies may ask and tell: looks, and calls, spoken of by their numbers."""

    def __init__(self, web, bodies):
        refuse_too_many(bodies)
        self.asked = looks(bodies)
        self.calls = calls_of(web, bodies, [any_kind() for place in places_of(bodies)])
        self.answers = [answer(web, bodies, call) for call in self.calls]
        self.outcomes = [[is_of(web, call[place], kind) for call in self.calls] for place, kind in self.asked]
        self.known = {}

    def all_calls(self):
        """The numbers of all calls."""
        return tuple(range(len(self.calls)))

    def sides(self, left, look):
        """Of the calls left those of which a look comes out so, and those of which it does not."""
        outcome = self.outcomes[look]
        return (tuple([at for at in left if outcome[at]]), tuple([at for at in left if not outcome[at]]))

    def least(self, left):
        """A tuple (depth, tree): of least depth among the trees that are right for the calls left, of one or more."""
        if left not in self.known:
            self.known[left] = self.told_at_once(left) or self.grown_by_looks(left)
        return self.known[left]

    def told_at_once(self, left):
        """As least, where the calls left have one answer, else None."""
        told = self.answers[left[0]]
        return (0, ("tell", told)) if all([self.answers[at] == told for at in left]) else None

    def grown_by_looks(self, left):
        """As least, where the calls left have unlike answers."""
        best = None
        for look, (place, kind) in enumerate(self.asked):
            yes, no = self.sides(left, look)
            # A look that comes out alike for all calls left tells nothing, so a tree without it is no deeper.
            if yes and no:
                ones, others = self.least(yes), self.least(no)
                many = 1 + max(ones[0], others[0])
                if best is None or many < best[0]:
                    best = (many, ("look", place, kind, ones[1], others[1]))
        return best


def grown(web, bodies):
    """A tree that is right for bodies, than which none that is right has less depth; or TooMany."""
    ground = Ground(web, bodies)
    return ground.least(ground.all_calls())[1]
