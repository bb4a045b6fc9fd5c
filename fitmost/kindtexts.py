"""Kinds and things as texts."""

from fitmost.errors import NoText
from fitmost.kinds import in_one_form, names_in
from fitmost.names import is_name, refuse_no_kinds
from fitmost.nests import nested
from fitmost.numbertexts import read_number, show_number

MOST_THINGS = 60


def read_end(text):
    """The end of a span that a text writes, none where it has no signs."""
    return (read_number(text),) if text else ()


def read_span(text):
    """The span that a text writes; NoText where it writes none."""
    low, points, high = text.partition("..")
    if not points:
        number = read_number(text)
        return ((number,), (number,))
    ends = (read_end(low), read_end(high))
    if low and high and ends[0] >= ends[1]:
        raise NoText(f"{text!r} does not rise")
    return ends


def read_parts(parts):
    """The kind of all things of a text's parts, not yet in one form; NoText where a part is not written so."""
    whole, names, spans, inners = False, [], [], []
    for part in parts:
        if isinstance(part, list):
            inners.append(read_parts(part))
        elif part == "any":
            whole = True
        elif is_name(part):
            names.append(part)
        elif part != "none":
            spans.append(read_span(part))
    return (whole, names, spans, inners)


def read_kind(web, text):
    """The kind that a text writes; NoText where it writes none, then NoKind of a name that the web does not have."""
    kind = read_parts(nested(text, "|"))
    refuse_no_kinds(names_in(kind), web.names())
    return in_one_form(web, kind)


def show_span(span):
    """The text of a span."""
    low, high = ["".join([show_number(number) for number in end]) for end in span]
    return low if low and low == high else f"{low}..{high}"


def show_kind(kind):
    """The text of a kind."""
    whole, names, spans, inners = kind
    if whole:
        return "any"
    parts = list(names) + [show_span(span) for span in spans] + [f"[{show_kind(inner)}]" for inner in inners]
    return "|".join(parts) or "none"


def read_item(item):
    """The thing that a word, or a list of items, writes; NoText where it writes none."""
    if isinstance(item, list):
        return [read_item(part) for part in item] if item != [""] else []
    if item == "blank":
        return None
    return item if is_name(item) else read_number(item)


def things_in(thing):
    """A list of a thing and all things in it, however deep."""
    told = [thing]
    if isinstance(thing, list):
        for part in thing:
            told = told + things_in(part)
    return told


def read_thing(web, text):
    """The thing that a text writes; NoText where it writes none, then NoKind of a name that the web does not have."""
    items = nested(text, ",")
    if len(items) != 1:
        raise NoText("a comma stands outside of all brackets")
    thing = read_item(items[0])
    things = things_in(thing)
    if len(things) > MOST_THINGS:
        raise NoText(f"there are {len(things)} things in all")
    refuse_no_kinds([part for part in things if isinstance(part, str)], web.names())
    return thing


def show_thing(thing):
    """The text of a thing."""
    if thing is None:
        return "blank"
    if isinstance(thing, list):
        return "[" + ",".join([show_thing(part) for part in thing]) + "]"
    return thing if isinstance(thing, str) else show_number(thing)
