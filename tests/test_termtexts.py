"""programtexts: [34], [16] of terms, and [2] of their texts."""

import copy
import random
import re
import unittest

from fitmost.errors import FitError, NoKind, NoText
from fitmost.kindtexts import read_kind
from fitmost.programtexts import read_term, show_term
from fitmost.webs import Web
from samples import ANY, NONE, check_texts, kind, longer_texts, pets, random_term, rough, short_texts

WEB = pets()
ONE = ("whole", 1)

# Terms of all sorts, and how they are written.
WRITTEN = {
    "0": ("whole", 0),
    "-42": ("whole", -42),
    "9" * 60: ("whole", 10 ** 60 - 1),
    "-" + "9" * 60: ("whole", -10 ** 60 + 1),
    "blank": ("blank",),
    "new cat": ("make", "cat"),
    "new abcdefgh": ("make", "abcdefgh"),
    "new x": ("make", "x"),
    "#0": ("part", 0),
    "#12": ("part", 12),
    "#-1": ("part", -1),
    "[]": ("row", ()),
    "[1]": ("row", (ONE,)),
    "[1, blank, [], [#0]]": ("row", (ONE, ("blank",), ("row", ()), ("row", (("part", 0),)))),
    "f()": ("call", "f", ()),
    "f(1)": ("call", "f", (ONE,)),
    "abcdefgh(1, new cat, on)": ("call", "abcdefgh", (ONE, ("make", "cat"), ("on",))),
    "is(1)": ("call", "is", (ONE,)),
    "f*(1)": ("each", "f", ONE),
    "g*([1, 1])": ("each", "g", ("row", (ONE, ONE))),
    "on": ("on",),
    "(1 + 1)": ("sum", ONE, ONE),
    "(1 - 1)": ("less", ONE, ONE),
    "(1 - -1)": ("less", ONE, ("whole", -1)),
    "(-1 + (1 - 1))": ("sum", ("whole", -1), ("less", ONE, ONE)),
    "((1 + 1) - 1)": ("less", ("sum", ONE, ONE), ONE),
    "(1 is any ? 1 : 1)": ("if", ONE, ANY, ONE, ONE),
    "(#0 is none ? on : blank)": ("if", ("part", 0), NONE, ("on",), ("blank",)),
    "(#0 is cat|1..9 ? f(#0, [1, blank]) : g*(#1))": (
        "if", ("part", 0), kind("cat|1..9"), ("call", "f", (("part", 0), ("row", (ONE, ("blank",))))),
        ("each", "g", ("part", 1))),
    "((1 is cat ? 1 : 1) is [[..]|[cat]] ? (1 is -5..-2 ? 1 : 1) : (1 is .. ? 1 : 1))": (
        "if", ("if", ONE, kind("cat"), ONE, ONE), kind("[[cat]|[..]]"), ("if", ONE, kind("-5..-2"), ONE, ONE),
        ("if", ONE, kind(".."), ONE, ONE)),
}

NUMBER = re.compile("-?[1-9][0-9]{0,59}|0")
NAME = re.compile("(?!(any|none|blank|new|on)$)[a-z]{1,8}")


def rest_of(text, *ways):
    """What is left of a text behind each of some beginnings that it has."""
    return [text[len(way):] for way in ways if text.startswith(way)]


def behind_words(text, form):
    """What is left of a text behind each word of a form that it begins with."""
    return [(text[:size], text[size:]) for size in range(1, min(len(text), 62) + 1) if form.fullmatch(text[:size])]


def behind_terms(text):
    """For each term that a text begins with: how many it has, how many in one another, and what is left behind it."""
    told = [(1, 1, rest) for word, rest in behind_words(text, NUMBER)]
    told += [(1, 1, rest) for rest in rest_of(text, "blank", "on")]
    for start in rest_of(text, "#"):
        told += [(1, 1, rest) for word, rest in behind_words(start, NUMBER)]
    for start in rest_of(text, "new "):
        told += [(1, 1, rest) for word, rest in behind_words(start, NAME)]
    rows = [(start, "]") for start in rest_of(text, "[")]
    for word, rest in behind_words(text, NAME):
        rows += [(start, ")") for start in rest_of(rest, "(")]
        told += [(1 + many, 1 + deep, end) for start in rest_of(rest, "*(")
                 for many, deep, behind in behind_terms(start) for end in rest_of(behind, ")")]
    for start, end in rows:
        told += [(1, 1, rest) for rest in rest_of(start, end)]
        told += [(1 + many, 1 + deep, rest) for many, deep, behind in behind_rows(start)
                 for rest in rest_of(behind, end)]
    for start in rest_of(text, "("):
        for many, deep, behind in behind_terms(start):
            rests = [(rest, "") for rest in rest_of(behind, " + ", " - ")]
            for rest, between in rests + [(rest, " : ") for rest in behind_kinds(behind)]:
                told += [(1 + many + others, 1 + max(deep, deeper), end)
                         for others, deeper, left in behind_two(rest, between) for end in rest_of(left, ")")]
    return told


def behind_two(text, between):
    """As behind_terms, of one term, or of two with something between them."""
    for many, deep, rest in behind_terms(text):
        if not between:
            yield (many, deep, rest)
            continue
        for start in rest_of(rest, between):
            for others, deeper, behind in behind_terms(start):
                yield (many + others, max(deep, deeper), behind)


def behind_rows(text):
    """As behind_terms, of one or more terms with a comma and a blank between each two."""
    for many, deep, rest in behind_terms(text):
        yield (many, deep, rest)
        for start in rest_of(rest, ", "):
            for others, deeper, behind in behind_rows(start):
                yield (many + others, max(deep, deeper), behind)


def behind_kinds(text):
    """What is left of a text behind " is ", a kind, and " ? "."""
    for start in rest_of(text, " is "):
        for found in re.finditer(r" \? ", start):
            try:
                read_kind(WEB, start[:found.start()])
            except NoText:
                continue
            except NoKind:
                pass
            yield start[found.end():]


def is_written(text):
    """Whether a text writes a term, by the words alone."""
    return any(not rest and many <= 40 and deep <= 6 for many, deep, rest in behind_terms(text))


class Shown(unittest.TestCase):

    def test_terms_of_each_sort(self):
        self.assertEqual(len({term[0] for term in WRITTEN.values()}), 11)
        for text, term in WRITTEN.items():
            self.assertEqual(show_term(term), text)
            self.assertEqual(read_term(WEB, text), term)

    def test_terms_of_terms_as_lists(self):
        self.assertEqual(show_term(("row", [ONE, ("call", "f", [ONE, ("row", [])])])), "[1, f(1, [])]")

    def test_terms_are_read_as_tuples(self):
        for text in WRITTEN:
            self.check_tuples(read_term(WEB, text))

    def check_tuples(self, told):
        self.assertIs(type(told), tuple)
        for part in told:
            if not isinstance(part, (str, int)):
                self.check_tuples(part)

    def test_numbers_of_more_than_sixty_figures_are_shown(self):
        self.assertEqual(show_term(("whole", 10 ** 60)), "1" + "0" * 60)
        self.assertEqual(show_term(("part", -10 ** 60)), "#-1" + "0" * 60)
        for text in ("1" + "0" * 60, "#1" + "0" * 60, "-1" + "0" * 60, "[1" + "0" * 60 + "]"):
            with self.assertRaises(NoText):
                read_term(WEB, text)

    def test_read_again_many_terms(self):
        source = random.Random(34)
        words = set()
        for _ in range(2000):
            term = random_term(source, {"f": 1, "g": 2, "h": 3}, 3, source.randint(1, 4))
            if is_too_great(term):
                continue
            self.assertEqual(read_term(WEB, show_term(term)), term)
            self.assertEqual(show_term(read_term(WEB, show_term(term))), show_term(term))
            words.add(term[0])
        self.assertEqual(len(words), 11)

    def test_kinds_are_read_in_any_form(self):
        for text, wanted in (("lynx|cat|cat", "cat"), ("4..9|1..3", "1..9"), ("none|any|cat", "any"), ("none", "none"),
                             ("[cat]|[lynx]|dog", "dog|[cat]"), ("[any]|[1]|[[[none]]]", "[any]")):
            self.assertEqual(read_term(WEB, f"(1 is {text} ? 1 : 1)"), ("if", ONE, kind(wanted), ONE, ONE))
            self.assertEqual(show_term(read_term(WEB, f"[(1 is {text} ? 1 : 1)]")), f"[(1 is {wanted} ? 1 : 1)]")

    def test_forty_terms(self):
        row = ", ".join(["1"] * 39)
        self.assertEqual(read_term(WEB, f"[{row}]"), ("row", (ONE,) * 39))
        self.assertEqual(read_term(WEB, f"f({row})"), ("call", "f", (ONE,) * 39))
        # An if, a sum, and so on count as one each.
        small = "(1 is any ? [(1 + 1), f*(1), (1 - 1), g(1)] : 1)"
        for many, let in ((25, True), (26, False)):
            text = "[" + ", ".join([small] + ["1"] * many) + "]"
            self.assertEqual(is_written(text), let)
            if let:
                self.assertEqual(show_term(read_term(WEB, text)), text)
            else:
                self.refused(NoText, text)
        for text in (f"[{row}, 1]", f"f({row}, 1)", f"([{row}] + 1)", f"g*([{row}])"):
            self.refused(NoText, text)

    def test_six_in_one_another(self):
        ways = ("[{}]", "f({})", "f(1, {})", "f*({})", "({} + 1)", "(1 + {})", "({} - 1)", "(1 - {})",
                "({} is cat ? 1 : 1)", "(1 is cat ? {} : 1)", "(1 is cat ? 1 : {})")
        for way in ways:
            for last in ("1", "blank", "on", "#0", "new cat", "[]", "f()"):
                text = last
                for _ in range(5):
                    text = way.format(text)
                self.assertEqual(show_term(read_term(WEB, text)), text)
                self.refused(NoText, way.format(text))
        self.refused(NoText, "[" * 900 + "]" * 900)
        self.refused(NoText, "(" * 1900)
        self.refused(NoText, "f*(" * 600)

    def refused(self, wanted, text):
        with self.assertRaises(FitError) as caught:
            read_term(WEB, text)
        self.assertIs(type(caught.exception), wanted, text)


def is_too_great(term):
    """Whether a term has more than forty terms."""
    return show_term(term).count("(") > 12 or len(show_term(term)) > 200


class Refused(unittest.TestCase):

    def refused(self, wanted, text):
        with self.assertRaises(FitError) as caught:
            read_term(WEB, text)
        self.assertIs(type(caught.exception), wanted, text)

    def test_a_blank_too_many_or_too_few(self):
        for text in WRITTEN:
            for at in range(len(text) + 1):
                self.refused(NoText, text[:at] + " " + text[at:])
                if text[at:at + 1] == " ":
                    self.refused(NoText, text[:at] + text[at + 1:])

    def test_a_sign_taken_away_or_put_in(self):
        texts = [text for text in WRITTEN if len(text) < 50]
        for text in texts:
            check = [text[:at] + text[at + 1:] for at in range(len(text))]
            check += [text[:at] + sign + text[at:] for at in range(len(text) + 1) for sign in "0a-,()[]*#?|. "]
            for told in check:
                try:
                    read_term(WEB, told)
                    was_read = True
                except NoText:
                    was_read = False
                except NoKind:
                    was_read = True
                self.assertEqual(was_read, is_written(told), told)

    def test_brackets_not_closed(self):
        for text in ("[", "[1", "[1,", "[1, ", "f(", "f(1", "f*(", "f*(1", "(", "(1", "(1 + 1", "(1 - ", "]", ")", "1]",
                     "1)", "[1)", "f(1]", "(1 + 1]", "[[1]", "[1]]", "(1 is cat ? 1", "(1 is cat ? 1 : 1",
                     "(1 is [cat ? 1 : 1)"):
            self.refused(NoText, text)

    def test_texts_that_are_no_terms(self):
        for text in ("", " ", "\n", "cat", "f", "any", "none", "new", "new ", "#", "# 0", "#cat", "#1..2", "-", "-0",
                     "01", "+1", "1 + 1", "(1)", "()", "(1 * 1)", "(1 + 1 + 1)", "f[1]", "f *(1)", "f* (1)", "f*()",
                     "f*(1, 1)", "*(1)", "[,]", "[1,1]", "[1 , 1]", "[1, ]", "[, 1]", "on()", "blank()", "(on)",
                     "1 is cat ? 1 : 1", "(1 is cat ? 1)", "(1 is cat : 1 ? 1)", "(1 is ? 1 : 1)", "(1 is  ? 1 : 1)",
                     "(1 is cat|  ? 1 : 1)", "(1 is cat, dog ? 1 : 1)", "(1 is 3..3 ? 1 : 1)", "(1 is 5..3 ? 1 : 1)",
                     "(1 is [[[[1]]]] ? 1 : 1)", "(1 is cat ? 1 : 1 : 1)", "blank on", "ON", "Blank", "1\n", "\n1",
                     "1 "):
            self.refused(NoText, text)

    def test_words_that_are_no_names(self):
        for word in ("any", "none", "blank", "new", "on", "Cat", "abcdefghi", "a1", "1", "-", "a-b", ""):
            for text in ("new " + word, word + "(1)", word + "*(1)", word + "()", f"[new {word}]", f"[{word}*(1)]"):
                if text != "(1)":
                    self.refused(NoText, text)

    def test_a_name_in_an_ifs_kind_that_the_web_does_not_have(self):
        for text in ("(1 is cow ? 1 : 1)", "(1 is cat|cow ? 1 : 1)", "(1 is [[cow]|1] ? 1 : 1)",
                     "(1 is any|cow ? 1 : 1)", "[(1 is cow ? 1 : 1)]", "f((1 is cow ? 1 : 1))",
                     "f*((1 is cow ? 1 : 1))", "(1 + (1 is cow ? 1 : 1))", "(1 is cat ? (1 is cow ? 1 : 1) : 1)",
                     "(1 is cat ? 1 : (1 is cow ? 1 : 1))", "((1 is cow ? 1 : 1) is cat ? 1 : 1)"):
            self.refused(NoKind, text)
            # What is not written so goes ahead, wherever it stands.
            for worse in (text + " ", text[:-1], f"[{text}, 01]", f"[01, {text}]", f"[new any, {text}]",
                          text.replace("1", "01"), f"({text} is cat| ? 1 : 1)", f"[{text}, (1 is 2..1 ? 1 : 1)]"):
                self.refused(NoText, worse)
        with self.assertRaises(NoKind):
            read_term(Web([]), "(1 is cat ? 1 : 1)")

    def test_the_name_behind_new_is_not_looked_at(self):
        for web in (WEB, Web([])):
            self.assertEqual(read_term(web, "[new cow, cow(1), cow*(1)]"), (
                "row", (("make", "cow"), ("call", "cow", (ONE,)), ("each", "cow", ONE))))

    def check_texts(self, texts, least=40):
        check_texts(self, lambda text: read_term(WEB, text), is_written, texts, least)

    def test_short_texts(self):
        self.check_texts(short_texts("1#f()[]", 5), 25)
        self.check_texts(short_texts(("1", "f(", "[", ", ", ")", "]"), 6))
        self.check_texts(short_texts(("(1 is ", "cat", " ? ", "1", " : 1)", "(1 is [cow]|2 ? "), 6), 15)

    def test_longer_texts(self):
        words = ("(", "(", "1", "1", ")", " + ", "[", "]", ", ", "blank", "f(", "f*(")
        self.check_texts(longer_texts(34, words))


class Kept(unittest.TestCase):

    def test_what_is_handed_in_stays_as_it_was(self):
        term = ("row", [ONE, ("call", "f", [ONE, ("row", [])])])
        kept = copy.deepcopy(term)
        show_term(term)
        self.assertEqual(term, kept)

    def test_webs_of_the_same_names_by_turns(self):
        tuples = [("x", []), ("y", []), ("z", ["x", "y"])], [("x", []), ("y", ["x"]), ("z", ["y"])]
        both, chain = [Web(told) for told in tuples]
        for _ in range(2):
            self.assertEqual(read_term(both, "(1 is x|y ? 1 : 1)")[2], rough(["x", "y"]))
            self.assertEqual(read_term(chain, "(1 is x|y ? 1 : 1)")[2], rough(["x"]))


if __name__ == "__main__":
    unittest.main()
