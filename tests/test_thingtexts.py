"""kindtexts: [14] and [16] of things, and [2] of them."""

import copy
import re
import unittest

from fitmost.errors import NoKind, NoText
from fitmost.kindtexts import read_thing, show_thing
from samples import check_texts, longer_texts, pets, sample_things, short_texts

WEB = pets()
GREAT = 10 ** 60 - 1

PLAIN = r"(?:[a-z]{1,8}|0|-?[1-9][0-9]{0,59})"
LEVELS = [PLAIN]
for _ in range(3):
    LEVELS.append(rf"(?:{PLAIN}|\[(?:{LEVELS[-1]}(?:,{LEVELS[-1]})*)?\])")
WRITTEN = re.compile(LEVELS[-1])


def is_written(text):
    """Whether a thing of few things is written so, by the words alone."""
    return bool(WRITTEN.fullmatch(text)) and not set(re.findall(r"[a-z]+", text)) & {"any", "none", "new", "on"}


def plain_text(thing):
    """The text of a thing, by the words alone."""
    return repr(thing).replace("'", "").replace("None", "blank").replace(" ", "")


def many(thing):
    """How many things a thing has in all, itself too."""
    return 1 + sum(many(part) for part in thing) if isinstance(thing, list) else 1


class ShowAndRead(unittest.TestCase):

    def check(self, thing, text):
        with self.subTest(text):
            self.assertEqual(show_thing(thing), text)
            told = read_thing(WEB, text)
            self.assertEqual(told, thing)
            self.assertIs(type(told), type(thing))

    def test_numbers(self):
        for number in (0, 1, -1, 42, -42, 10 ** 59, GREAT, -GREAT):
            self.check(number, str(number))
        for number in (10 ** 60, -10 ** 60, 10 ** 200 + 7):
            self.assertEqual(show_thing(number), str(number))
            self.assertEqual(show_thing([number]), f"[{number}]")
        self.assertEqual(show_thing(10 ** 5000), "1" + "0" * 5000)

    def test_names_and_the_blank(self):
        for name in WEB.names():
            self.check(name, name)
        self.check(None, "blank")

    def test_lists(self):
        self.check([], "[]")
        self.check([1], "[1]")
        self.check(["cat", -3, None], "[cat,-3,blank]")
        self.check([None, None], "[blank,blank]")
        self.check([[]], "[[]]")
        self.check([[], []], "[[],[]]")
        self.check([[[]]], "[[[]]]")
        self.check([[[1, "dog"], []], None, [0]], "[[[1,dog],[]],blank,[0]]")
        self.check(["cat", [["lynx"], 5, [None]], "cat"], "[cat,[[lynx],5,[blank]],cat]")

    def test_sixty_things_in_all(self):
        for thing in (list(range(59)), [list(range(58))], [[list(range(57))]], [[]] * 59, [["cat"] * 28, [None] * 29]):
            self.assertEqual(many(thing), 60)
            self.check(thing, plain_text(thing))

    def test_more_things_are_shown_too(self):
        for thing in (list(range(60)), list(range(300)), [[[[1]]]], [[[[[]]]], []]):
            self.assertEqual(show_thing(thing), plain_text(thing))

    def test_sample_things(self):
        for thing in sample_things():
            text = plain_text(thing)
            self.check(thing, text)
            self.assertTrue(is_written(text), text)


class Refused(unittest.TestCase):

    def check(self, error, *texts):
        for text in texts:
            with self.subTest(repr(text)), self.assertRaises(error) as caught:
                read_thing(WEB, text)
            self.assertIs(type(caught.exception), error)

    def test_sixty_one_things(self):
        things = [list(range(60)), [list(range(59))], [[list(range(58))]], [[]] * 60, ["cat"] * 60, [["cat"] * 29] * 2,
                  list(range(200))]
        for thing in things:
            self.assertGreater(many(thing), 60)
            self.check(NoText, plain_text(thing))

    def test_four_lists_in_one_another(self):
        self.check(NoText, "[[[[]]]]", "[[[[1]]]]", "[1,[2,[3,[4]]]]", "[[[]],[[[]]]]", "[" * 900 + "]" * 900)

    def test_no_signs_and_blanks(self):
        self.check(NoText, "", " ", " 1", "1 ", "[1, 2]", "[1 ,2]", "[ ]", "[ 1]", "[1 ]", "c at", "blank ", " blank",
                   "[] ")

    def test_commas(self):
        self.check(NoText, ",", "1,", ",1", "1,2", "cat,dog", "[],[]", "[,]", "[,1]", "[1,]", "[1,,2]", "[[],]",
                   "[,[]]", "[[],,[]]", "[[,]]", "[1],", ",[1]", "[],1", "[1,[2,]]")

    def test_brackets(self):
        self.check(NoText, "[", "]", "[1", "1]", "[[1]", "[1]]", "][", "[][]", "[1][2]", "1[2]", "[1]2", "[1[2]]",
                   "[[1]2]", "[]]", "[[]", "(1)", "{}", "[]cat", "cat[]")

    def test_words_and_numbers(self):
        self.check(NoText, "any", "none", "new", "on", "[any]", "[none]", "[1,new]", "[[on]]", "Cat", "abcdefghi",
                   "cat1",
                   "c-t", "None", "Blank", "01", "-0", "+1", "-", "1" * 61, "[01]", "[cat,-0]", "1..2", "..", "1|2",
                   "cat|dog",
                   "1.0", "\u0661", "[\u00e9]", "'cat'", "-" + "1" * 61)

    def test_line_ends(self):
        self.check(NoText, "\n", "1\n", "cat\n", "blank\n", "[]\n", "[\n]", "[1\n]", "\n1", "[1,\n2]")

    def test_a_name_that_the_web_does_not_have(self):
        self.check(NoKind, "cow", "[cow]", "[1,cow]", "[[[cow]]]", "[cat,[1,[blank,cow]]]", "anys", "blanks")

    def test_what_is_not_written_goes_ahead_of_a_name(self):
        self.check(NoText, "cow,", "[cow", "cow]", "[cow,any]", "[any,cow]", "[cow,]", "[,cow]", "[01,cow]", "[cow,01]",
                   "[[[[cow]]]]", "cow\n", "[cow][]", plain_text(["cow"] + [1] * 59), plain_text([1] * 59 + ["cow"]))
        self.check(NoKind, plain_text(["cow"] + [1] * 58))

    def test_all_short_texts(self):
        check_texts(self, lambda text: read_thing(WEB, text), is_written, short_texts("[],-01a", 5))

    def test_longer_texts(self):
        words = ["[", "[[", "]", "]]", "],[", ",", "a", "1", "[]", "blank"]
        check_texts(self, lambda text: read_thing(WEB, text), is_written, longer_texts(14, words))


class Kept(unittest.TestCase):

    def test_what_is_handed_in_stays_as_it_was(self):
        for thing in sample_things():
            kept = copy.deepcopy(thing)
            show_thing(thing)
            self.assertEqual(thing, kept)

    def test_what_is_told_may_be_changed(self):
        for text in ("[]", "[[],[1]]"):
            for _ in range(2):
                told = read_thing(WEB, text)
                self.assertEqual(show_thing(told), text)
                for part in told:
                    part.append(5)
                told.append(7)


if __name__ == "__main__":
    unittest.main()
