"""Keepers: a web and bodies of one function, while kinds and bodies come and go."""

from fitmost.bodies import looked_over, picked
from fitmost.errors import Held, NoBody
from fitmost.kinds import names_in
from fitmost.lines import line
from fitmost.names import refuse_no_kinds, refuse_no_names, refuse_taken
from fitmost.quarrels import quarrels
from fitmost.tables import table
from fitmost.webs import Web


class Keeper:
    """A web and bodies of one function, at first no kinds and no bodies."""

    def __init__(self):
        self.straight = {}
        self.rows = {}

    def put_kind(self, name, over):
        """Put a kind in behind all others, with the kinds straight over it; or NoName, Taken, NoKind."""
        ups = list(over)
        refuse_no_names([name] + ups)
        refuse_taken(list(self.straight) + [name])
        refuse_no_kinds(ups, list(self.straight))
        self.straight[name] = ups

    def drop_kind(self, name):
        """Take a kind out; or NoKind, Held."""
        refuse_no_kinds([name], list(self.straight))
        if name in self.names_held():
            raise Held(f"{name} is straight over another kind, or stands in a body's row")
        self.straight.pop(name)

    def names_held(self):
        """All names that are straight over a kind, or stand in a kind of a body's row."""
        ups = [up for over in self.straight.values() for up in over]
        return ups + [name for row in self.rows.values() for kind in row for name in names_in(kind)]

    def put_body(self, name, row):
        """Put a body in behind all others; or what is refused of the bodies with it."""
        looked_over(self.bodies() + [(name, row)])
        self.rows[name] = tuple(row)

    def drop_body(self, name):
        """Take a body out; or NoBody."""
        if name not in list(self.rows):
            raise NoBody(f"there is no body {name}")
        self.rows.pop(name)

    def web(self):
        """The web of all kinds."""
        return Web(list(self.straight.items()))

    def bodies(self):
        """The list of all bodies."""
        return list(self.rows.items())

    def pick(self, call):
        """What is picked of a call."""
        return picked(self.web(), self.bodies(), call)

    def hand_on(self, call):
        """The line of a call."""
        return line(self.web(), self.bodies(), call)

    def all_quarrels(self):
        """The quarrels of the bodies; or TooMany."""
        return quarrels(self.web(), self.bodies())

    def small(self):
        """The table of the bodies; or TooMany."""
        return table(self.web(), self.bodies())
