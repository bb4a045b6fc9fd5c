"""What a name is."""

LETTERS = "abcdefghijklmnopqrstuvwxyz"
LONGEST = 8
NO_NAMES = ("any", "none", "blank", "new", "on")


def is_name(thing):
    """Whether anything at all is a name."""
    if not isinstance(thing, str):
        return False
    if len(thing) < 1 or len(thing) > LONGEST or thing in NO_NAMES:
        return False
    return all([sign in LETTERS for sign in thing])
