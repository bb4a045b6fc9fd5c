"""What a name is, and what is refused of names."""

from fitmost.errors import NoKind, NoName, Taken

LETTERS = "abcdefghijklmnopqrstuvwxyz"
LONGEST = 8
NO_NAMES = ("any", "none", "blank", "new", "on")


def is_name(thing):
    """Whether anything at all is a name."""
    if not isinstance(thing, str):
        return False
    if len(thing) < 1 or len(thing) > LONGEST or thing in NO_NAMES:
        return False
    return all([sign in LETTERS for sign in thing])


def refuse_no_names(words):
    """Raise NoName where one of the words is no name."""
    for word in words:
        if not is_name(word):
            raise NoName(f"{word!r} is no name")


def refuse_taken(names):
    """Raise Taken where a name stands twice."""
    for at, name in enumerate(names):
        if name in names[:at]:
            raise Taken(f"{name} is told twice")


def refuse_no_kinds(names, known):
    """Raise NoKind where one of the names is none of the known kinds'."""
    for name in names:
        if name not in known:
            raise NoKind(f"there is no kind {name}")
