"""Numbers as texts."""

from fitmost.errors import NoText

FIGURES = "0123456789"
MOST_FIGURES = 60
BLOCK_FIGURES = 60
BLOCK = 10 ** 60


def is_written(figures):
    """Whether figures are those of a number, without its sign."""
    if len(figures) < 1 or len(figures) > MOST_FIGURES:
        return False
    if figures[0] == "0" and figures != "0":
        return False
    return all([sign in FIGURES for sign in figures])


def read_number(text):
    """The number that a text writes; NoText where it writes none."""
    figures = text[1:] if text.startswith("-") else text
    if text == "-0" or not is_written(figures):
        raise NoText(f"{text!r} is no number")
    return int(text)


def show_number(number):
    """The text of a number, of however many figures."""
    blocks = []
    rest = abs(number)
    # Block by block, since Python refuses to write a number of some thousand figures at once.
    while rest >= BLOCK:
        rest, block = divmod(rest, BLOCK)
        blocks.append(str(block).zfill(BLOCK_FIGURES))
    blocks.append(str(rest))
    sign = "-" if number < 0 else ""
    return sign + "".join(reversed(blocks))
