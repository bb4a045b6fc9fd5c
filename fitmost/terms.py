"""Terms of the small language: tuples that begin with the word of their sort, and the terms within them."""


def own_terms(term):
    """The terms straight within a term, from left to right."""
    word = term[0]
    if word == "row":
        return list(term[1])
    if word == "call":
        return list(term[2])
    if word == "each":
        return [term[2]]
    if word == "if":
        return [term[1], term[3], term[4]]
    return list(term[1:]) if word in ("sum", "less") else []


def with_own(term, own):
    """A term like another one, but with other terms straight within it, from left to right."""
    word = term[0]
    if word == "row":
        return ("row", tuple(own))
    if word == "call":
        return ("call", term[1], tuple(own))
    if word == "each":
        return ("each", term[1], own[0])
    if word == "if":
        return ("if", own[0], term[2], own[1], own[2])
    return (word,) + tuple(own) if word in ("sum", "less") else tuple(term)


def in_tuples(term):
    """A term like another one, the terms of which are tuples, however deep."""
    return with_own(term, [in_tuples(inner) for inner in own_terms(term)])


def all_terms(term):
    """A list of a term and all terms within it, however deep."""
    told = [term]
    for inner in own_terms(term):
        told = told + all_terms(inner)
    return told
