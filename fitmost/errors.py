"""What is refused: one class for each refusal, all of them straight under FitError."""


class FitError(ValueError):
    """Any refusal."""


class NoName(FitError):
    """Something stands in a name's place that is no name."""


class Taken(FitError):
    """A name is there already."""


class NoKind(FitError):
    """A name is none of a kind that is there."""


class Ring(FitError):
    """Kinds stand over one another in a ring: each next one straight over the one before, the first over the last."""

    def __init__(self, ring):
        self.ring = list(ring)


class NoText(FitError):
    """A text is not written as it is to be."""


class NoPlaces(FitError):
    """Bodies have no places, too many, or not as many as one another."""


class Alike(FitError):
    """Two bodies have equal rows."""

    def __init__(self, one, other):
        self.one = one
        self.other = other


class NoBody(FitError):
    """No body has that name."""


class TooMany(FitError):
    """Bodies have more looks than are gone through."""


class NoTerm(FitError):
    """A body's term asks for what is not there."""

    def __init__(self, function, body):
        self.function = function
        self.body = body


class Held(FitError):
    """A kind is still in use."""


class NoLine(FitError):
    """A row of a program's text is not written as it is to be."""

    def __init__(self, line):
        self.line = line
