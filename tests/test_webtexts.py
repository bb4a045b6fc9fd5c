"""webtexts: [15], [16] of webs, and [2] of them."""

import itertools
import random
import re
import unittest

from fitmost.errors import NoKind, NoText, Ring, Taken
from fitmost.webs import Web
from fitmost.webtexts import read_web, show_web
from samples import check_texts, pets, random_webs, short_texts

TUPLE = r"[a-z]{1,8}(?:: [a-z]{1,8}(?:, [a-z]{1,8})*)?"
WRITTEN = re.compile(rf"(?:{TUPLE}(?:; {TUPLE})*)?")


def is_written(text):
    """Whether a web is written so, by the words alone."""
    return bool(WRITTEN.fullmatch(text)) and not set(re.findall(r"[a-z]+", text)) & {
        "any", "none", "blank", "new", "on"}


def tuples_of(web):
    return [(name, web.over(name)) for name in web.names()]


class Show(unittest.TestCase):

    def check(self, tuples, text):
        self.assertEqual(show_web(Web(tuples)), text)
        self.assertEqual(tuples_of(read_web(text)), tuples_of(Web(tuples)))

    def test_plain(self):
        self.check([], "")
        self.check([("cat", [])], "cat")
        self.check([("pet", []), ("cat", ["wild", "pet"]), ("wild", [])], "pet; cat: pet, wild; wild")
        self.check([("cat", ["pet"]), ("pet", [])], "cat: pet; pet")

    def test_those_over_a_kind_stand_in_order_each_once(self):
        self.check([("e", ["d", "b", "d", "a", "b"]), ("d", []), ("b", []), ("a", [])], "e: a, b, d; d; b; a")

    def test_tuples_stand_as_they_were_told(self):
        tuples = [("d", ["a"]), ("a", []), ("c", ["d", "a"]), ("b", ())]
        for told in itertools.permutations(tuples):
            text = "; ".join({"a": "a", "b": "b", "c": "c: a, d", "d": "d: a"}[name] for name, over in told)
            self.check(list(told), text)

    def test_pets(self):
        self.assertEqual(show_web(pets()), "pet; cat: pet, wild; dog: pet; wild; lynx: cat, wild; stone")


class Read(unittest.TestCase):

    def test_in_any_order_and_twice(self):
        for text in ("c: a, b; a; b", "c: b, a; a; b", "c: b, a, b, b; a; b", "c: a, a, b; a; b"):
            web = read_web(text)
            self.assertIsInstance(web, Web)
            self.assertEqual(tuples_of(web), [("c", ["a", "b"]), ("a", []), ("b", [])])
            self.assertEqual(show_web(web), "c: a, b; a; b")

    def test_what_is_read_goes_by_its_tuples(self):
        web = read_web("lynx: cat; cat: pet; pet; dog: pet")
        self.assertIs(web.beneath("lynx", "pet"), True)
        self.assertIs(web.beneath("lynx", "dog"), False)
        self.assertEqual(web.chain("lynx", "pet"), ["lynx", "cat", "pet"])

    def test_the_web_without_kinds(self):
        self.assertEqual(read_web("").names(), [])

    def test_shown_and_read_again_it_is_the_same(self):
        source = random.Random(15)
        for tuples in random_webs():
            web = Web(tuples)
            text = show_web(web)
            self.assertTrue(is_written(text))
            self.assertEqual(tuples_of(read_web(text)), tuples_of(web))
            rough = "; ".join(
                name + ": " * bool(over) + ", ".join(source.sample(list(over), len(over))) for name, over in tuples)
            self.assertEqual(show_web(read_web(rough)), text)

    def test_twenty_four_kinds_of_eight_letters(self):
        names = ["kindofa" + sign for sign in "abcdefghijklmnopqrstuvwx"]
        text = "; ".join([names[0]] + [f"{name}: {up}" for up, name in zip(names, names[1:])])
        self.assertEqual(show_web(read_web(text)), text)


class Refused(unittest.TestCase):

    def check(self, error, *texts):
        for text in texts:
            with self.subTest(repr(text)), self.assertRaises(error) as caught:
                read_web(text)
            self.assertIs(type(caught.exception), error)

    def test_signs_missing(self):
        self.check(NoText, "a;b", "a b", "a: b,c; b; c", "a:b; b", "a b; b", "a: b c; b; c", "a:; b", "a: ; b",
                   "a: b, ; b", "a: , b; b", ": a; a", "; a", "a; ", "a;", ";", " ", "a:", "a: ", ":", ",", "a,",
                   "a, b", "a; b:", "a; ; b")

    def test_signs_told_twice(self):
        self.check(NoText, "a;; b", "a; ; b", "a;  b", "a:: b; b", "a:  b; b", "a: : b; b", "a: b,, c; b; c",
                   "a: b, , c; b; c", "a: b,  c; b; c", "a: b: c; b; c", "a; b;", "a; b; ", "a; b\n", "\n", "a\n",
                   "a; b;\n", " a", "a ", "a ; b", "a: b ; b", "a : b; b", "a: b , c; b; c", "a;\nb")

    def test_words_that_are_no_names(self):
        self.check(NoText, "any", "none", "blank", "new", "on", "a: any", "a; on", "a: b, new; b", "A", "abcdefghi",
                   "a1", "1", "a-b", "a: B", "a: abcdefghi", "\u00e9", "a.b", "[a]", "a: 1; b")

    def test_taken(self):
        self.check(Taken, "a; a", "a; b; a", "a: b; b; a", "a: b; a: b; b")

    def test_no_kind(self):
        self.check(NoKind, "a: b", "a: b, c; b", "a; b: c")

    def test_a_ring(self):
        for text in ("a: a", "a: b; b: a", "c; a: c, b; b: d; d: c, a"):
            with self.assertRaises(Ring) as caught:
                read_web(text)
            ring = caught.exception.ring
            over = dict((part.split(": ") + [""])[:2] for part in text.split("; "))
            for one, other in zip(ring, ring[1:] + ring[:1]):
                self.assertIn(other, over[one].split(", "))

    def test_two_of_them_at_once(self):
        self.check(NoText, "a; a; B", "B; a; a", "a: b; any", "a: any, b", "a: a; ", "a: a; on", "a: b; a; ")
        self.check(Taken, "a: c; a", "a; a: c", "a: a; a", "a: b; b: a; a")
        self.check(NoKind, "a: a, c", "a: a; b: c", "b: c; a: a")

    def test_all_short_texts(self):
        check_texts(self, read_web, is_written, short_texts("ab:;, ", 6))


class Kept(unittest.TestCase):

    def test_what_is_told_may_be_changed(self):
        web = read_web("a: b; b")
        web.names().append("c")
        web.over("a").append("c")
        self.assertEqual(show_web(web), "a: b; b")

    def test_webs_of_the_same_names_asked_by_turns(self):
        texts = ("a: b; b", "a; b: a", "a; b", "b; a: b")
        webs = [read_web(text) for text in texts]
        for _ in range(2):
            for web, text in zip(webs, texts):
                self.assertEqual(show_web(web), text)
                self.assertEqual(web.beneath("a", "b"), "a: b" in text)


if __name__ == "__main__":
    unittest.main()
