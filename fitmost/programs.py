"""Programs of the small language: a web, and functions with bodies, each of which has a term."""

from fitmost.bodies import looked_over
from fitmost.errors import NoPlaces, NoTerm
from fitmost.names import refuse_no_names, refuse_taken
from fitmost.terms import all_terms, in_tuples
from fitmost.webs import alike


def without_terms(bodies):
    """Bodies (name, row) of bodies (name, row, term)."""
    return [(name, row) for name, row, term in bodies]


def refuse_bodies(bodies):
    """Raise NoPlaces where a function has no body, else what is refused of bodies."""
    if not bodies:
        raise NoPlaces("a function has no body")
    looked_over(without_terms(bodies))


def is_there(web, places, many, term):
    """Whether all is there that a term by itself asks for, in a body of many places; places are the functions'."""
    word = term[0]
    if word == "make":
        return term[1] in web.names()
    if word == "part":
        return 0 <= term[1] < many
    if word == "call":
        return places.get(term[1]) == len(term[2])
    return word != "each" or places.get(term[1]) == 1


def refuse_no_terms(web, functions):
    """Raise NoTerm of the first body whose term asks for what is not there."""
    places = {name: len(bodies[0][1]) for name, result, bodies in functions}
    for function, result, bodies in functions:
        for body, row, term in bodies:
            if not all([is_there(web, places, len(row), inner) for inner in all_terms(term)]):
                raise NoTerm(function, body)


class Program:
    """A web, and functions: tuples (name, result, list of bodies), a body a tuple (name, row, term)."""

    def __init__(self, web, functions):
        self.ground = alike(web)
        self.told = [
            (name, result, [(body, tuple(row), in_tuples(term)) for body, row, term in bodies])
            for name, result, bodies in functions
        ]
        names = [name for name, result, bodies in self.told]
        refuse_no_names(names)
        refuse_taken(names)
        for name, result, bodies in self.told:
            refuse_bodies(bodies)
        refuse_no_terms(web, self.told)

    def web(self):
        """A web told alike."""
        return alike(self.ground)

    def functions(self):
        """The list of tuples (name, result, list of bodies), rows and terms as tuples."""
        return [(name, result, list(bodies)) for name, result, bodies in self.told]
