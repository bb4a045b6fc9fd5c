"""Texts of words with brackets round some of them."""

from fitmost.errors import NoText

MOST_ROWS = 3


def word_goes_on(items, sign):
    """Put a sign behind the last word of some items; NoText where a bracket is closed straight ahead of it."""
    if isinstance(items[-1], list):
        raise NoText(f"{sign!r} stands behind a bracket")
    items[-1] += sign


def opened(rows):
    """Begin a row of items at the last place of the innermost one; NoText where that is not free, or it is too deep."""
    if rows[-1][-1] != "":
        raise NoText("a bracket stands behind a word, or behind another one")
    if len(rows) > MOST_ROWS:
        raise NoText("there are too many rows in one another")
    rows[-1][-1] = [""]
    rows.append(rows[-1][-1])


def nested(text, between):
    """The items of a text, a sign between each two: words, perhaps without signs, and lists of items in brackets."""
    rows = [[""]]
    for sign in text:
        if sign == "[":
            opened(rows)
        elif sign == "]" and len(rows) == 1:
            raise NoText("a bracket is closed that is not open")
        elif sign == "]":
            rows.pop()
        elif sign == between:
            rows[-1].append("")
        else:
            word_goes_on(rows[-1], sign)
    if len(rows) > 1:
        raise NoText("a bracket is not closed")
    return rows[0]
