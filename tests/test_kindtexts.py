"""kindtexts: [13] and [16] of kinds, and [2] of them."""

import random
import re
import unittest

from fitmost.errors import NoKind, NoText
from fitmost.kinds import any_kind, formed
from fitmost.kindtexts import read_kind, show_kind
from fitmost.webs import Web
from samples import ANY, NONE, check_texts, longer_texts, pets, rough, rough_kinds, short_texts, span

WEB = pets()
SIXTY = "9" * 60

NUMBER = r"(?:0|-?[1-9][0-9]{0,59})"
PART = rf"(?:[a-z]{{1,8}}|{NUMBER}|{NUMBER}?\.\.{NUMBER}?)"
LEVELS = [rf"{PART}(?:\|{PART})*"]
for _ in range(3):
    LEVELS.append(rf"(?:{PART}|\[{LEVELS[-1]}\])(?:\|(?:{PART}|\[{LEVELS[-1]}\]))*")
WRITTEN = re.compile(LEVELS[-1])


def is_written(text):
    """Whether a kind is written so, by the words alone."""
    if not WRITTEN.fullmatch(text):
        return False
    if set(re.findall(r"[a-z]+", text)) & {"blank", "new", "on"}:
        return False
    spans = [part.split("..") for part in re.split(r"[\[\]|]", text) if ".." in part]
    return all(int(low) < int(high) for low, high in spans if low and high)


def parts_of(source, kind):
    """The texts of the parts of a kind, of spans that have a number alone, in any order."""
    whole, names, spans, inners = kind
    if whole:
        return ["any"]
    told = list(names)
    for low, high in spans:
        if not low or not high or low < high:
            told.append("..".join("".join(str(number) for number in end) for end in (low, high)))
        elif low == high:
            told.append(str(low[0]))
    told += ["[" + "|".join(parts_of(source, inner)) + "]" for inner in inners]
    told += source.choices(told, k=source.randint(0, 2)) if told else []
    told += ["none"] * (not told or source.random() < 0.2)
    source.shuffle(told)
    return told


class Show(unittest.TestCase):

    def check(self, text, names=(), spans=(), inners=()):
        kind = formed(WEB, names, spans, inners)
        self.assertEqual(show_kind(kind), text)
        self.assertEqual(read_kind(WEB, text), kind)

    def test_any_and_none(self):
        self.assertEqual(show_kind(ANY), "any")
        self.assertEqual(show_kind(NONE), "none")

    def test_names(self):
        self.check("cat", ["cat"])
        self.check("cat|dog|stone", ["stone", "dog", "cat"])

    def test_spans_of_each_writing(self):
        self.check("3", spans=[span(3, 3)])
        self.check("0", spans=[span(0, 0)])
        self.check("-7", spans=[span(-7, -7)])
        self.check("1..9", spans=[span(1, 9)])
        self.check("1..2", spans=[span(1, 2)])
        self.check("-9..-1", spans=[span(-9, -1)])
        self.check("-1..0", spans=[span(-1, 0)])
        self.check("..9", spans=[span(None, 9)])
        self.check("..-9", spans=[span(None, -9)])
        self.check("1..", spans=[span(1)])
        self.check("-1..", spans=[span(-1)])
        self.check("..", spans=[span()])
        self.check("..-3|-1|1..9|11..", spans=[span(11), span(1, 9), span(-1, -1), span(None, -3)])

    def test_inners(self):
        self.check("[any]", inners=[ANY])
        self.check("[none]", inners=[NONE])
        self.check("[cat]|[dog]", inners=[rough(["dog"]), rough(["cat"])])
        self.check("[cat|dog]", inners=[rough(["dog", "cat"])])
        self.check("[..0]|[2]|[cat]", inners=[rough(["cat"]), rough(spans=[span(2, 2)]), rough(spans=[span(None, 0)])])

    def test_inners_in_one_another(self):
        self.check("[[none]]", inners=[rough(inners=[NONE])])
        self.check("[[[any]]]", inners=[rough(inners=[rough(inners=[ANY])])])
        self.check("[stone|[[cat|1]|[dog]]]|[wild]", inners=[
            rough(["wild"]), rough(["stone"], inners=[rough(inners=[rough(["dog"]), rough(["cat"], [span(1, 1)])])])])

    def test_all_together(self):
        self.check("cat|dog|1..9|[any]", ["cat", "dog"], [span(1, 9)], [ANY])
        self.check("dog|..0|2|[[cat]]|[..]|[pet]", ["dog"], [span(2, 2), span(None, 0)],
                   [rough(["pet"]), rough(spans=[span()]), rough(inners=[rough(["cat"])])])

    def test_numbers_of_sixty_figures_and_more(self):
        great = 10 ** 60 - 1
        self.check(f"-{SIXTY}..{SIXTY}", spans=[span(-great, great)])
        self.check(SIXTY, spans=[span(great, great)])
        for number in (10 ** 60, 10 ** 200 + 3, -10 ** 60):
            self.assertEqual(show_kind(rough(spans=[span(number, number)])), str(number))
            self.assertEqual(show_kind(rough(spans=[span(number)])), f"{number}..")
            self.assertEqual(show_kind(rough(inners=[rough(spans=[span(None, number)])])), f"[..{number}]")
        self.assertEqual(show_kind(rough(spans=[span(0, 10 ** 5000)])), "0..1" + "0" * 5000)

    def test_more_levels_are_shown_too(self):
        kind, text = rough(["cat"]), "cat"
        for _ in range(9):
            kind, text = formed(WEB, [], [], [kind]), f"[{text}]"
        self.assertEqual(show_kind(kind), text)

    def test_shown_and_read_again_it_is_the_same(self):
        for kind in rough_kinds():
            kind = any_kind() if kind[0] else formed(WEB, *kind[1:])
            text = show_kind(kind)
            self.assertTrue(is_written(text), text)
            self.assertEqual(read_kind(WEB, text), kind, text)


class Read(unittest.TestCase):

    def check(self, texts, wanted):
        for text in texts:
            with self.subTest(text):
                self.assertEqual(show_kind(read_kind(WEB, text)), wanted)

    def test_in_any_order_and_twice(self):
        self.check(["cat|dog|3", "3|dog|cat", "dog|3|cat", "cat|cat|3|dog|3|dog"], "cat|dog|3")
        self.check(["[dog]|[cat]", "[cat]|[dog]|[cat]", "[cat|none]|[dog|dog]"], "[cat]|[dog]")
        self.check(["[[dog|cat]|1]|2", "2|[1|[cat|dog]|1]"], "2|[1|[cat|dog]]")

    def test_any_and_none_among_them(self):
        self.check(["any", "any|any", "none|any", "any|none", "cat|any", "any|1..9|[cat]", "[dog]|any"], "any")
        self.check(["none", "none|none"], "none")
        self.check(["cat|none", "none|cat", "none|cat|none"], "cat")
        self.check(["[cat|any]", "[any]|[cat]", "[none]|[dog|any|none]"], "[any]")
        self.check(["[none|none]", "none|[none]"], "[none]")
        self.check(["[none]|[dog]"], "[dog]")

    def test_spans_that_touch_or_overlap(self):
        self.check(["1..4|5..9", "5..9|1..4", "1..6|3..9", "1..9|3|4..5", "1|2|3|4|5..9", "1..9|1..9"], "1..9")
        self.check(["..3|4..", "..|0", "..9|-9.."], "..")
        self.check(["..3|4..9", "..9|..2"], "..9")
        self.check(["1..4|6..9", "6..9|4|1..4"], "1..4|6..9")
        self.check(["[1..4|5..9]", "[1..9]|[3..4]"], "[1..9]")

    def test_names_beneath_one_another(self):
        self.check(["cat|pet", "pet|lynx|dog|cat", "pet|pet"], "pet")
        self.check(["[cat|pet]", "[cat]|[pet]", "[lynx]|[pet]|[dog]"], "[pet]")

    def test_inners_within_one_another(self):
        self.check(["[cat]|[cat|dog]", "[dog|cat]|[dog]"], "[cat|dog]")
        self.check(["[[cat]|[dog]]|[[cat]]"], "[[cat]|[dog]]")
        self.check(["[[cat]|[dog]]|[[cat|dog]]", "[[cat|dog]]|[[dog]]|[none]"], "[[cat|dog]]")

    def test_any_telling_of_parts(self):
        source = random.Random(13)
        for kind in rough_kinds():
            for _ in range(6):
                text = "|".join(parts_of(source, kind))
                self.assertTrue(is_written(text), text)
                self.assertEqual(read_kind(WEB, text), any_kind() if kind[0] else formed(WEB, *kind[1:]), text)

    def test_thirty_parts(self):
        text = "|".join(str(2 * at) for at in range(30))
        self.assertEqual(show_kind(read_kind(WEB, text)), text)
        text = "|".join(f"[{at}..{at + 2}]" for at in range(10, 40))
        self.assertEqual(show_kind(read_kind(WEB, text)), text)

    def test_longest_names(self):
        web = Web([("abcdefgh", []), ("z", [])])
        self.assertEqual(read_kind(web, "z|abcdefgh"), rough(["abcdefgh", "z"]))


class Refused(unittest.TestCase):

    def check(self, error, *texts):
        for text in texts:
            with self.subTest(repr(text)), self.assertRaises(error) as caught:
                read_kind(WEB, text)
            self.assertIs(type(caught.exception), error)

    def test_no_signs_and_blanks(self):
        self.check(NoText, "", " ", "  ", " cat", "cat ", "cat |dog", "cat| dog", "[ cat]", "[cat ]", "1 ..9", "1.. 9",
                   "[any] ", "any ", "c at")

    def test_bars(self):
        self.check(NoText, "|", "||", "|cat", "cat|", "cat||dog", "[|cat]", "[cat|]", "[cat||dog]", "[cat]|", "|[cat]",
                   "[cat]||[dog]", "[|]", "any|", "|none")

    def test_brackets(self):
        self.check(NoText, "[", "]", "[]", "[[]]", "[cat", "cat]", "[cat]]", "[[cat]", "[cat][dog]", "cat[dog]",
                   "[dog]cat", "][", "]cat[", "[cat]1", "1[cat]", "[cat|[dog]", "[cat]|dog]", "[]cat", "[]|cat",
                   "cat|[]", "(cat)",
                   "[cat[dog]]", "[[dog]cat]", "[[cat][dog]]", "any[any]")

    def test_numbers(self):
        self.check(NoText, "01", "00", "-01", "-0", "+1", "+0", "-", "--1", "1-", "-cat", "1" * 61, "-" + "1" * 61,
                   "1_0", "1.5", "1e3", "[01]", "[[[-0]]]", "cat|007", "1" * 61 + "..", "..+1", "..-0", "-0..", "00..1",
                   "0.." + "9" * 61, "- 1")

    def test_spans(self):
        self.check(NoText, "9..1", "3..3", "0..-1", "-1..-2", "-3..-3", "0..0", ".", "...", "....", "1.", ".1", "1.9",
                   "1...9", "1...", "...9", "1....9", "1..2..3", "..1..", "....1", "a..b", "1..cat", "cat..", "..any",
                   "[9..1]", "cat|3..3", "1..9..", f"{SIXTY}..1")

    def test_words(self):
        self.check(NoText, "blank", "new", "on", "cat|blank", "[new]", "on|cat", "abcdefghi", "Cat", "CAT", "cat1",
                   "c-t", "c_t", "c.t", "Any", "anyany!", "None", "\u00e9", "cat,dog", "cat;dog", "cat\tdog", "*",
                   "#0", "~")

    def test_four_rows_in_one_another(self):
        self.check(NoText, "[[[[any]]]]", "[[[[none]]]]", "cat|[[dog|[[1]]]]", "[[[[]]]]", "[" * 900 + "1" + "]" * 900)
        self.assertEqual(show_kind(read_kind(WEB, "[[[any]]]|1")), "1|[[[any]]]")

    def test_line_ends(self):
        self.check(NoText, "\n", "cat\n", "any\n", "1\n", "1..\n", "[cat]\n", "[cat\n]", "\ncat", "cat\n|dog",
                   "cat|\ndog")

    def test_a_name_that_the_web_does_not_have(self):
        self.check(NoKind, "cow", "cat|cow", "cow|cat", "[cow]", "[[cow]]", "[[[cow]]]", "1|[2|[cow]]", "any|cow",
                   "cow|any", "[any|cow]", "[any]|[cow]", "[[any|[cow]]]", "none|cow", "anys", "nones", "blanks",
                   "news", "ons")

    def test_what_is_not_written_goes_ahead_of_a_name(self):
        self.check(NoText, "cow|", "|cow", "cow|3..3", "3..3|cow", "[cow", "cow]", "[cow]|[]", "[]|[cow]",
                   "[[[[cow]]]]", "cow|blank", "on|cow", "cow|01", "01|cow", "cow\n", "[[cow]|-0]", "[-0|[cow]]",
                   "cow|Cow")

    def test_all_short_texts(self):
        check_texts(self, lambda text: read_kind(WEB, text), is_written, short_texts("[]|.01-a", 5))

    def test_longer_texts(self):
        words = ["[", "[[", "]", "]]", "]|[", "|", "|", "a", "1", "-2..9"]
        check_texts(self, lambda text: read_kind(WEB, text), is_written, longer_texts(16, words))

    def test_other_webs(self):
        for web in (Web([]), Web([("dog", [])])):
            with self.assertRaises(NoKind):
                read_kind(web, "cat")
            self.assertEqual(read_kind(web, "1|[any]"), rough(spans=[span(1, 1)], inners=[ANY]))


class Kept(unittest.TestCase):

    def test_webs_of_the_same_names_asked_by_turns(self):
        up, down, flat = [Web(tuples) for tuples in (
            [("a", ["b"]), ("b", [])], [("a", []), ("b", ["a"])], [("a", []), ("b", [])])]
        for _ in range(2):
            for web, plain, inners in ((up, "b", "[b]"), (down, "a", "[a]"), (flat, "a|b", "[a]|[b]")):
                self.assertEqual(show_kind(read_kind(web, "b|a")), plain)
                self.assertEqual(show_kind(read_kind(web, "[b]|[a]")), inners)


if __name__ == "__main__":
    unittest.main()
