"""Webs: kinds by their names, each with the kinds straight over it."""

from fitmost.errors import Ring
from fitmost.names import refuse_no_kinds, refuse_no_names, refuse_taken


def ring_among(straight, left):
    """A ring of some of the names left, each of which has one left straight over it, perhaps itself."""
    steps = [left[0]]
    while True:
        step = [up for up in straight[steps[-1]] if up in left][0]
        if step in steps:
            return steps[steps.index(step):]
        steps.append(step)


def all_above(straight):
    """For each name a dict that has the names that it is beneath, itself too; Ring where there is a ring."""
    above = {}
    while len(above) < len(straight):
        left = [name for name in straight if name not in above]
        ready = [name for name in left if all([up in above for up in straight[name]])]
        if not ready:
            raise Ring(ring_among(straight, left))
        for name in ready:
            above[name] = {name: True}
            for up in straight[name]:
                above[name].update(above[up])
    return above


class Web:
    """Kinds by their names, made of a list of tuples (name, list of the names straight over it)."""

    def __init__(self, tuples):
        rows = [(name, list(over)) for name, over in tuples]
        names = [name for name, over in rows]
        ups = [up for name, over in rows for up in over]
        refuse_no_names(names + ups)
        refuse_taken(names)
        refuse_no_kinds(ups, names)
        self.straight = {name: sorted(set(over)) for name, over in rows}
        self.above = all_above(self.straight)

    def names(self):
        """The names of all kinds, as they were told."""
        return list(self.straight)

    def over(self, name):
        """The names of the kinds straight over one, in order, each once."""
        return list(self.straight[name])

    def beneath(self, one, other):
        """Whether one is the other kind, or a kind straight over it is beneath that one."""
        return other in self.above[one]

    def chain(self, one, other):
        """A list from one to the other, each next one straight over the one before; None where there is none."""
        if not self.beneath(one, other):
            return None
        steps = [one]
        while steps[-1] != other:
            steps.append([up for up in self.straight[steps[-1]] if self.beneath(up, other)][0])
        return steps

    def beneath_some(self, name, others):
        """Whether a kind is beneath one of the others."""
        above = self.above[name]
        for other in others:
            if other in above:
                return True
        return False

    def beneath_another(self, name, names):
        """Whether a kind is beneath one of the names that is not itself."""
        above = self.above[name]
        for other in names:
            if other != name and other in above:
                return True
        return False

    def tops(self, names):
        """Those names, in order, each once, that are beneath none of them but themselves."""
        return sorted({name for name in names if not self.beneath_another(name, names)})

    def shared(self, ones, others):
        """The tops of all kinds that are beneath one of the ones and beneath one of the others."""
        return self.tops([
            name for name in self.straight if self.beneath_some(name, ones) and self.beneath_some(name, others)
        ])


def alike(web):
    """A web of its own, told as another one."""
    return Web([(name, web.over(name)) for name in web.names()])
