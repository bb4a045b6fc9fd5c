"""Terms and programs as texts."""

from fitmost.errors import NoKind, NoLine, NoText
from fitmost.kinds import in_one_form, names_in
from fitmost.kindtexts import read_kind, show_kind
from fitmost.names import refuse_no_kinds
from fitmost.numbertexts import show_number
from fitmost.programs import Program
from fitmost.terms import all_terms, own_terms, with_own
from fitmost.termtexts import TermReader, name_of
from fitmost.webtexts import read_web, show_web


def with_formed_kinds(web, term):
    """A term like another one, with the kinds of all its ifs in one form."""
    told = with_own(term, [with_formed_kinds(web, inner) for inner in own_terms(term)])
    return told[:2] + (in_one_form(web, told[2]),) + told[3:] if told[0] == "if" else told


def read_term(web, text):
    """The term that a text writes; NoText where it writes none, then NoKind of a name in an if's kind."""
    reader = TermReader(text)
    term = reader.read_next(1)
    if reader.rest:
        raise NoText(f"{reader.rest!r} stands behind a term")
    kinds = [inner[2] for inner in all_terms(term) if inner[0] == "if"]
    refuse_no_kinds([name for kind in kinds for name in names_in(kind)], web.names())
    return with_formed_kinds(web, term)


def show_term(term):
    """The text of a term."""
    word = term[0]
    own = [show_term(inner) for inner in own_terms(term)]
    if word == "whole":
        return show_number(term[1])
    if word == "part":
        return "#" + show_number(term[1])
    if word == "make":
        return "new " + term[1]
    if word == "row":
        return "[" + ", ".join(own) + "]"
    if word == "call":
        return term[1] + "(" + ", ".join(own) + ")"
    if word == "each":
        return f"{term[1]}*({own[0]})"
    if word in ("sum", "less"):
        sign = "+" if word == "sum" else "-"
        return f"({own[0]} {sign} {own[1]})"
    return f"({own[0]} is {show_kind(term[2])} ? {own[1]} : {own[2]})" if word == "if" else word


def read_function(web, row):
    """The tuple (name, result, list of no bodies) that a row writes; NoText or NoKind where it writes none."""
    name, gives, result = row.partition(" gives ")
    return (name_of(name), read_kind(web, result), [])


def read_body(web, row):
    """The tuple (name, row, term) that a row writes behind its two blanks; NoText or NoKind where it writes none."""
    head, colon, term = row.partition("): ")
    name, bracket, kinds = head.partition("(")
    if not bracket:
        raise NoText("a body has no bracket behind its name")
    told = [read_kind(web, kind) for kind in kinds.split(", ")] if kinds else []
    return (name_of(name), tuple(told), read_term(web, term))


def read_next_row(web, row, functions):
    """Put what a row writes behind the functions read ahead of it; NoText or NoKind where it is not written so."""
    if not row.startswith("  "):
        functions.append(read_function(web, row))
    elif functions:
        functions[-1][2].append(read_body(web, row[2:]))
    else:
        raise NoText("a body stands ahead of any function")


def read_program(text):
    """The program that a text writes; NoLine where it writes none, or what is refused of a web and of a program."""
    rows = text.split("\n")
    try:
        web = read_web(rows[0])
    except NoText:
        raise NoLine(0) from None
    functions = []
    for number, row in enumerate(rows[1:], start=1):
        try:
            read_next_row(web, row, functions)
        except (NoText, NoKind):
            raise NoLine(number) from None
    return Program(web, functions)


def show_body(name, row, term):
    """The row of a body."""
    return "  " + name + "(" + ", ".join([show_kind(kind) for kind in row]) + "): " + show_term(term)


def show_program(program):
    """The text of a program."""
    rows = [show_web(program.web())]
    for name, result, bodies in program.functions():
        rows.append(f"{name} gives {show_kind(result)}")
        rows.extend([show_body(body, row, term) for body, row, term in bodies])
    return "\n".join(rows)
