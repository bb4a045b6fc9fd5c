"""Foes: what they say to some looks leaves two calls of unlike answers, where the looks are too few."""

from fitmost.things import copied
from fitmost.trees import Ground


def depth_left(ground, left):
    """The least depth of trees that are right for the calls left, below 0 where no call is left."""
    return ground.least(left)[0] if left else -1


def foe(web, bodies, some):
    """A tuple (said, call, other): said of the looks some, each in turn, of two calls of unlike answers; or TooMany."""
    ground = Ground(web, bodies)
    left = ground.all_calls()
    said = []
    for place, kind in some:
        yes, no = ground.sides(left, ground.asked.index((place, kind)))
        # The deeper side needs one look less at most, so with fewer looks than the depth it never comes to one answer.
        said.append(depth_left(ground, yes) >= depth_left(ground, no))
        left = yes if said[-1] else no
    one = left[0]
    other = [at for at in left if ground.answers[at] != ground.answers[one]][0]
    return (said, copied(ground.calls[one]), copied(ground.calls[other]))
