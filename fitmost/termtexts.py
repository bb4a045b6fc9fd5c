"""Terms as texts, read from left to right; the kinds in them are told as read, not yet in one form."""

from fitmost.errors import NoText
from fitmost.kindtexts import read_parts
from fitmost.names import is_name
from fitmost.nests import nested
from fitmost.numbertexts import read_number

MOST_TERMS = 40
MOST_DEEP = 6
WORD_SIGNS = "abcdefghijklmnopqrstuvwxyz0123456789-"


def name_of(word):
    """A word that is a name; NoText where it is none."""
    if not is_name(word):
        raise NoText(f"{word!r} is no name")
    return word


class TermReader:
    """What is left of a term's text, and how many terms are begun."""

    def __init__(self, text):
        self.rest = text
        self.begun = 0

    def comes(self, signs):
        """Whether some signs come next; if so, they are read."""
        if not self.rest.startswith(signs):
            return False
        self.rest = self.rest[len(signs):]
        return True

    def read_signs(self, signs):
        """Read some signs; NoText where they don't come next."""
        if not self.comes(signs):
            raise NoText(f"there is no {signs!r} ahead of {self.rest!r}")

    def read_word(self):
        """Read a word, perhaps without signs."""
        size = 0
        while size < len(self.rest) and self.rest[size] in WORD_SIGNS:
            size += 1
        word = self.rest[:size]
        self.rest = self.rest[size:]
        return word

    def read_kind_text(self):
        """Read the text of an if's kind, and the sign behind it."""
        kind, mark, rest = self.rest.partition(" ? ")
        self.rest = rest
        return kind

    def read_next(self, deep):
        """Read a term that stands so many in one another; NoText where none comes next, or there are too many."""
        self.begun += 1
        if self.begun > MOST_TERMS or deep > MOST_DEEP:
            raise NoText("there are too many terms, in all or in one another")
        if self.comes("["):
            return ("row", self.read_row("]", deep + 1))
        if self.comes("("):
            return self.read_two_or_three(deep + 1)
        if self.comes("#"):
            return ("part", read_number(self.read_word()))
        if self.comes("new "):
            return ("make", name_of(self.read_word()))
        word = self.read_word()
        if self.comes("("):
            return ("call", name_of(word), self.read_row(")", deep + 1))
        if self.comes("*("):
            inner = self.read_next(deep + 1)
            self.read_signs(")")
            return ("each", name_of(word), inner)
        return (word,) if word in ("blank", "on") else ("whole", read_number(word))

    def read_row(self, end, deep):
        """Read terms with a comma and a blank between each two, perhaps none, and their end."""
        told = []
        if not self.comes(end):
            told.append(self.read_next(deep))
            while self.comes(", "):
                told.append(self.read_next(deep))
            self.read_signs(end)
        return tuple(told)

    def read_two_or_three(self, deep):
        """Read what stands between brackets, and their end: a sum, a less or an if."""
        one = self.read_next(deep)
        if self.comes(" + "):
            told = ("sum", one, self.read_next(deep))
        elif self.comes(" - "):
            told = ("less", one, self.read_next(deep))
        else:
            self.read_signs(" is ")
            kind = read_parts(nested(self.read_kind_text(), "|"))
            then = self.read_next(deep)
            self.read_signs(" : ")
            told = ("if", one, kind, then, self.read_next(deep))
        self.read_signs(")")
        return told
