"""Lines: all bodies that fit a call, in the order in which they hand on."""

from fitmost.bodies import fits, none_closer
from fitmost.errors import NoBody


def line(web, bodies, call):
    """The names of all bodies that fit a call: each next one the first left than which none left is closer."""
    left = [body for body in bodies if fits(web, body, call)]
    names = []
    while left:
        body = [body for body in left if none_closer(web, body, left)][0]
        names.append(body[0])
        left = [other for other in left if other[0] != body[0]]
    return names


def onward(web, bodies, call, name):
    """The name behind a name in the line of a call, None behind the last one; NoBody where it is not in the line."""
    names = line(web, bodies, call)
    if name not in names:
        raise NoBody(f"{name!r} is not in the line")
    return (names + [None])[names.index(name) + 1]
