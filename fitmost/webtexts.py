"""Webs as texts."""

from fitmost.errors import NoText
from fitmost.names import is_name
from fitmost.webs import Web


def read_tuple(text):
    """The tuple (name, list of the names straight over it) that a text writes; NoText where it writes none."""
    name, colon, rest = text.partition(": ")
    over = rest.split(", ") if colon else []
    for word in [name] + over:
        if not is_name(word):
            raise NoText(f"{word!r} is no name")
    return (name, over)


def read_web(text):
    """The web that a text writes; NoText where it writes none, then as a Web is refused."""
    return Web([read_tuple(part) for part in text.split("; ")] if text else [])


def show_tuple(name, over):
    """The text of a kind and the names straight over it."""
    return name + ": " + ", ".join(over) if over else name


def show_web(web):
    """The text of a web."""
    return "; ".join([show_tuple(name, web.over(name)) for name in web.names()])
