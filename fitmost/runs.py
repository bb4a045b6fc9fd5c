"""Runs of programs: what a function tells of things."""

from fitmost.bodies import picked
from fitmost.kindtexts import MOST_THINGS, things_in
from fitmost.lines import onward
from fitmost.nests import MOST_ROWS
from fitmost.programs import without_terms
from fitmost.terms import own_terms
from fitmost.things import copied, is_of

MOST_CALLS = 200
MOST_WITHIN = 12


class Ended(Exception):
    """A run comes to its end without a thing; told is what it tells instead."""

    def __init__(self, told):
        self.told = told


def is_number(thing):
    """Whether a thing is a number."""
    return isinstance(thing, int)


def reckoned(word, one, other):
    """The sum of two things, or the one less the other; Ended where they are not two numbers."""
    if not is_number(one) or not is_number(other):
        raise Ended(("number",))
    return one + other if word == "sum" else one - other


def lists_deep(thing):
    """How many lists stand in one another in a thing, itself counted."""
    if not isinstance(thing, list):
        return 0
    return 1 + max([lists_deep(part) for part in thing], default=0)


def not_too_long(things):
    """A list of things; Ended where it has too many, or too many lists in one another."""
    if len(things_in(things)) > MOST_THINGS or lists_deep(things) > MOST_ROWS:
        raise Ended(("long",))
    return things


class Runner:
    """A run of a program: its web and functions, and how many calls may still be made."""

    def __init__(self, program, most):
        functions = program.functions()
        self.ground = program.web()
        self.rows = {name: without_terms(bodies) for name, result, bodies in functions}
        self.terms = {(name, body): term for name, result, bodies in functions for body, row, term in bodies}
        self.left = most

    def count_call(self, deep):
        """Count a call that is within so many others; Ended where it is too many."""
        if self.left < 1 or deep > MOST_WITHIN:
            raise Ended(("long",))
        self.left -= 1

    def called(self, function, things, deep):
        """What a call of a function tells, within so many others."""
        self.count_call(deep)
        told = picked(self.ground, self.rows[function], things)
        if told[0] != "one":
            raise Ended((told[0], function) + told[1:])
        return self.thing_by(self.terms[(function, told[1])], (function, told[1], things, deep))

    def handed_on(self, function, body, things, deep):
        """What the next body in the line tells, handed on by a body whose call is within so many others."""
        self.count_call(deep + 1)
        following = onward(self.ground, self.rows[function], things, body)
        if following is None:
            raise Ended(("end", function, body))
        return self.thing_by(self.terms[(function, following)], (function, following, things, deep + 1))

    def each_called(self, function, things, deep):
        """The list of what a function tells of each of some things; Ended where they are no list."""
        if not isinstance(things, list):
            raise Ended(("row",))
        return not_too_long([self.called(function, [thing], deep) for thing in things])

    def thing_by(self, term, at):
        """What a term tells, at a tuple (function, body, things, how many calls its call is within)."""
        function, body, things, deep = at
        word = term[0]
        if word == "if":
            so = is_of(self.ground, self.thing_by(term[1], at), term[2])
            return self.thing_by(term[3] if so else term[4], at)
        own = [self.thing_by(inner, at) for inner in own_terms(term)]
        if word == "row":
            return not_too_long(own)
        if word in ("sum", "less"):
            return reckoned(word, own[0], own[1])
        if word == "call":
            return self.called(term[1], own, deep + 1)
        if word == "each":
            return self.each_called(term[1], own[0], deep + 1)
        if word == "on":
            return self.handed_on(function, body, things, deep)
        if word == "part":
            return things[term[1]]
        return term[1] if word in ("whole", "make") else None


def run(program, function, things, most=MOST_CALLS):
    """What a program's function tells of things: ("thing", thing), or why there is none, with at most so many calls."""
    try:
        thing = Runner(program, most).called(function, list(things), 0)
    except Ended as ended:
        return ended.told
    return ("thing", copied(thing))
