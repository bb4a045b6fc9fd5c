"""Looking through programs: the kinds of their terms, and their flaws, ahead of any run."""

from fitmost.bodies import closer
from fitmost.kinds import any_kind, apart, joined, met, none_kind, within
from fitmost.programs import without_terms
from fitmost.quarrels import refuse_too_many, settled
from fitmost.spans import spans_less, spans_sum
from fitmost.terms import own_terms
from fitmost.things import own_kind

ALL_NUMBERS = (((), ()),)


def kind_of_numbers(spans):
    """The kind of all numbers that spans in one form have."""
    return (False, (), spans, ())


def kind_of_lists(inner):
    """The kind whose one inner is a kind."""
    return (False, (), (), (inner,))


def spans_in(kind):
    """The spans that have the numbers of a kind."""
    return ALL_NUMBERS if kind[0] else kind[2]


def joined_all(web, kinds):
    """The kind of all things that are of one of some kinds."""
    told = none_kind()
    for kind in kinds:
        told = joined(web, told, kind)
    return told


def inner_in(web, kind):
    """The kind of all things in lists of a kind."""
    return any_kind() if kind[0] else joined_all(web, kind[3])


def narrowed(row, term, kind):
    """A row of kinds, but with a kind for the part that a term is, where it is one."""
    return [kind if term == ("part", place) else told for place, told in enumerate(row)]


class Looker:
    """A body of a program, looked through; its terms are looked at with a row: the kinds of the body's parts there."""

    def __init__(self, program, function, body):
        functions = program.functions()
        self.ground = program.web()
        self.rows = {name: without_terms(bodies) for name, result, bodies in functions}
        self.results = {name: result for name, result, bodies in functions}
        self.function = function
        self.body = body

    def kinds_within(self, term, row):
        """The kinds of the terms straight within a term that is no if, from left to right."""
        return [self.kind_told(inner, row) for inner in own_terms(term)]

    def kind_told(self, term, row):
        """The kind of a term."""
        word = term[0]
        if word == "if":
            looked = self.looked_at(term, row)[1:]
            return joined_all(self.ground, [self.kind_told(inner, kinds) for number, inner, kinds in looked])
        if word == "part":
            return row[term[1]]
        if word == "on":
            return self.results[self.function]
        if word == "call":
            return self.results[term[1]]
        if word == "row":
            return kind_of_lists(joined_all(self.ground, self.kinds_within(term, row)))
        if word == "each":
            inner = inner_in(self.ground, self.kind_told(term[2], row))
            return kind_of_lists(inner if inner == none_kind() else self.results[term[1]])
        if word in ("sum", "less"):
            one, other = [spans_in(kind) for kind in self.kinds_within(term, row)]
            return kind_of_numbers(spans_sum(one, other) if word == "sum" else spans_less(one, other))
        return own_kind(self.ground, None if word == "blank" else term[1])

    def looked_at(self, term, row):
        """Tuples (number, term, row) of the terms straight within a term that are looked at, each with its row."""
        own = own_terms(term)
        if term[0] != "if":
            return [(number, inner, row) for number, inner in enumerate(own)]
        kind = self.kind_told(own[0], row)
        both = met(self.ground, kind, term[2])
        told = [(0, own[0], row)]
        if both != none_kind():
            told.append((1, own[1], narrowed(row, own[0], both)))
        if not within(self.ground, kind, term[2]):
            told.append((2, own[2], row))
        return told

    def unsettled(self, function, kinds):
        """A list of what settles the kinds that a function is handed, where that is a quarrel or none, else []."""
        told = settled(self.ground, self.rows[function], kinds)
        return [] if told[0] == "all" else [told]

    def hands_on(self):
        """Whether the body is closer than another one of its function."""
        rows = self.rows[self.function]
        return any([closer(self.ground, (self.body, dict(rows)[self.body]), other) for other in rows])

    def whys(self, term, row):
        """A list of what is wrong with a term, the terms within it left out."""
        word = term[0]
        if word == "on":
            return [] if self.hands_on() else [("end",)]
        if word == "call":
            return self.unsettled(term[1], self.kinds_within(term, row))
        if word == "each":
            kind = self.kind_told(term[2], row)
            no_lists = [("row", thing) for thing in apart(self.ground, kind, kind_of_lists(any_kind()))]
            return no_lists + self.unsettled(term[1], [inner_in(self.ground, kind)])
        if word not in ("sum", "less"):
            return []
        sides = list(enumerate(self.kinds_within(term, row)))
        numbers = kind_of_numbers(ALL_NUMBERS)
        return [("number", side, thing) for side, kind in sides for thing in apart(self.ground, kind, numbers)]

    def flaws_within(self, term, row, place):
        """The flaws of a term at a place and of all terms within it that are looked at, by their places."""
        told = [(self.function, self.body, place, why) for why in self.whys(term, row)]
        for number, inner, kinds in self.looked_at(term, row):
            told = told + self.flaws_within(inner, kinds, place + (number,))
        return told

    def all_flaws(self, term, row):
        """The flaws of the body, whose term and row these are."""
        told = self.flaws_within(term, row, ())
        for thing in apart(self.ground, self.kind_told(term, row), self.results[self.function]):
            told.append((self.function, self.body, (), ("result", thing)))
        return sorted(told, key=lambda flaw: flaw[2])


def kind_in(program, function, body, place):
    """The kind of the term at a place of a body, a place that is looked at."""
    looker = Looker(program, function, body)
    bodies = [bodies for name, result, bodies in program.functions() if name == function][0]
    row, term = [(row, term) for name, row, term in bodies if name == body][0]
    for step in place:
        term, row = [(inner, kinds) for number, inner, kinds in looker.looked_at(term, row) if number == step][0]
    return looker.kind_told(term, row)


def flaws(program):
    """The flaws of a program, tuples (function, body, place, why), in order; or TooMany, of any of its functions."""
    functions = program.functions()
    for function, result, bodies in functions:
        refuse_too_many(without_terms(bodies))
    told = []
    for function, result, bodies in functions:
        for body, row, term in bodies:
            told = told + Looker(program, function, body).all_flaws(term, row)
    return told
