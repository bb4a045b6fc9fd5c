"""quarrels: [22], [23], and [2] of them."""

import copy
import itertools
import random
import unittest

from fitmost.errors import TooMany
from fitmost.quarrels import looks, quarrels, settled
from fitmost.webs import Web
from samples import (ANY, BODY_KINDS, NONE, PETS, kind, pets, plain_calls, plain_is_of, plain_picked, rough,
                     some_bodies, told_bodies)

WEB = pets()


def row_of(text):
    return tuple(kind(part) for part in text.split(", "))


def plain_quarrels(bodies):
    """All pairs that quarrel at some call, rising, by the words alone."""
    told = [plain_picked(WEB, PETS, bodies, call) for call in plain_calls(WEB, bodies, [ANY] * len(bodies[0][1]))]
    return sorted({answer[1:] for answer in told if answer[0] == "quarrel"})


class Looks(unittest.TestCase):

    def test_of_no_bodies(self):
        self.assertEqual(looks([]), [])
        self.assertEqual(looks(()), [])

    def test_without_any_and_none(self):
        self.assertEqual(looks(told_bodies("any", "none")), [])
        self.assertEqual(looks(told_bodies("any, none, cat", "none, any, none")), [(2, kind("cat"))])
        self.assertEqual(looks(told_bodies("[any]", "[none]")), [(0, kind("[none]")), (0, kind("[any]"))])

    def test_rising_each_once(self):
        bodies = told_bodies("dog, cat", "cat, 1", "dog, 1", "[cat], cat", "..0, any", "3, cat")
        wanted = [(0, kind(text)) for text in ("[cat]", "..0", "3", "cat", "dog")] + [
            (1, kind(text)) for text in ("1", "cat")]
        for order in itertools.permutations(bodies):
            self.assertEqual(looks(list(order)), wanted)
        self.assertEqual(looks(tuple((name, list(row)) for name, row in bodies)), wanted)
        self.assertEqual(wanted, sorted(wanted))

    def test_more_than_six_are_told_too(self):
        bodies = told_bodies("1, 1, 1", "2, 2, 2", "3, 3, 3")
        self.assertEqual(looks(bodies), [(place, kind(text)) for place in range(3) for text in "123"])

    def test_by_the_words(self):
        for number in range(80):
            bodies = some_bodies(number)
            told = looks(bodies)
            self.assertIs(type(told), list)
            self.assertEqual(told, sorted(told))
            for at, look in enumerate(told):
                self.assertNotIn(look, told[:at])
                self.assertIn(look[1], [row[look[0]] for name, row in bodies])
            for name, row in bodies:
                for place, one in enumerate(row):
                    self.assertEqual((place, one) in told, one not in (ANY, NONE))


class TooManyLooks(unittest.TestCase):

    def test_six_are_let_by_seven_are_not(self):
        for six, seven in ((["1", "2", "3", "4", "5", "6", "any", "none"], ["1", "2", "3", "4", "5", "6", "7"]),
                           (["1, 1", "2, 2", "3, 3"], ["1, 1", "2, 2", "3, 3", "4, any"]),
                           (["1, 1, 1", "2, 2, 2"], ["1, 1, 1", "2, 2, 2", "any, 1, 3"])):
            bodies = told_bodies(*six)
            row = bodies[0][1]
            self.assertEqual(len(looks(bodies)), 6)
            self.assertEqual(quarrels(WEB, bodies), [])
            self.assertEqual(settled(WEB, bodies, row), ("all", ["a"]))
            bodies = told_bodies(*seven)
            self.assertEqual(len(looks(bodies)), 7)
            for told in (bodies, tuple(bodies)):
                with self.assertRaises(TooMany) as caught:
                    quarrels(WEB, told)
                self.assertIs(type(caught.exception), TooMany)
                for asked in (row, [NONE] * len(row), [ANY] * len(row)):
                    with self.assertRaises(TooMany) as caught:
                        settled(WEB, told, asked)
                    self.assertIs(type(caught.exception), TooMany)

    def test_kinds_of_the_row_are_no_looks(self):
        bodies = told_bodies("1", "2", "3", "4", "5", "6")
        self.assertEqual(settled(WEB, bodies, [kind("2..4")]), ("all", ["b", "c", "d"]))


class Quarrels(unittest.TestCase):

    def check(self, bodies, pairs=None):
        """That quarrels are such, and all."""
        told = quarrels(WEB, bodies)
        self.assertIs(type(told), list)
        for one, other, call in told:
            self.assertIs(type(call), list)
            self.assertEqual(plain_picked(WEB, PETS, bodies, call), ("quarrel", one, other))
        self.assertEqual([row[:2] for row in told], plain_quarrels(bodies), bodies)
        self.assertEqual([type(row) for row in told], [tuple] * len(told))
        self.assertEqual(quarrels(WEB, tuple((name, list(row)) for name, row in bodies)), told)
        if pairs is not None:
            self.assertEqual([one + other for one, other, call in told], pairs)

    def test_bodies_without_quarrels(self):
        self.check(told_bodies("cat"), [])
        self.check(told_bodies("any"), [])
        self.check(told_bodies("none"), [])
        self.check(told_bodies("cat", "dog", "pet", "any"), [])
        self.check(told_bodies("cat, 1", "dog, 1", "pet, 2"), [])
        self.check(told_bodies("dog", "wild"), [])

    def test_quarrels_at_one_place(self):
        self.check(told_bodies("pet", "wild"), ["ab"])
        self.check(told_bodies("wild", "pet"), ["ab"])
        self.check(told_bodies("1..5", "4..9", "5..12"), ["ab", "bc"])
        self.check(told_bodies("1..5", "5..9", "5..12|1"), ["ab", "ac"])
        self.check(told_bodies("[cat]", "[dog]"), ["ab"])

    def test_rising_by_one_then_by_other(self):
        rows = {"c": "1..3", "a": "3..5", "b": "5..7", "e": "1|7", "d": "3|8"}
        for order in itertools.permutations(rows):
            self.check([(name, (kind(rows[name]),)) for name in order])
        bodies = [(name, (kind(rows[name]),)) for name in "cabed"]
        self.check(bodies, ["ab", "be", "ca", "ce"])
        self.check(bodies[::-1], ["ba", "da", "eb", "ec"])

    def test_rows_that_differ_at_several_places(self):
        self.check(told_bodies("pet, any", "any, 1..9"), ["ab"])
        self.check(told_bodies("pet, 1..5, any", "wild, 5..9, [cat]"), ["ab"])
        self.check(told_bodies("pet, 1..5", "dog, 7..9"), [])
        self.check(told_bodies("pet, any, any", "any, pet, any", "any, any, pet"), ["ab", "ac", "bc"])

    def test_but_for_a_third_that_is_closer(self):
        self.check(told_bodies("pet", "wild", "cat"), [])
        self.check(told_bodies("pet", "wild", "lynx"), ["ab"])
        self.check(told_bodies("pet, any", "any, 1..9", "pet, 1..9"), [])
        self.check(told_bodies("pet, any", "any, 1..9", "pet, 2..9"), ["ab"])
        self.check(told_bodies("1..5", "5..9", "5"), [])

    def test_only_the_list_without_things_quarrels(self):
        self.check(told_bodies("[cat]", "[dog]"), ["ab"])
        self.assertEqual(quarrels(WEB, told_bodies("[cat]", "[dog]")), [("a", "b", [[]])])
        self.check(told_bodies("[cat]", "[dog]", "[none]"), [])

    def test_only_a_list_of_several_things_quarrels(self):
        self.check(told_bodies("[1|2]|[2|3]", "[1|3]|[2|3]", "[1]", "[2]|[3]", "[none]"))
        self.check(told_bodies("[cat|dog]", "[pet]|[..]", "[cat]|[dog]"), [])
        self.check(told_bodies("[pet]", "[wild|dog]", "[cat]", "[dog]", "[none]"), ["ab"])

    def test_by_the_words(self):
        for number in range(150):
            self.check(some_bodies(number))


class Settled(unittest.TestCase):

    def check(self, bodies, row):
        """That what settles a row is such."""
        told = settled(WEB, bodies, row)
        self.assertIs(type(told), tuple)
        answers = [plain_picked(WEB, PETS, bodies, call) for call in plain_calls(WEB, bodies, row)]
        if told[0] == "all":
            self.assertEqual({answer[0] for answer in answers} - {"one"}, set(), (bodies, row))
            self.assertEqual(told, ("all", sorted({answer[1] for answer in answers})), (bodies, row))
            self.assertIs(type(told[1]), list)
        else:
            call = told[-1]
            self.assertIs(type(call), list)
            self.assertTrue(all(plain_is_of(PETS, thing, one) for thing, one in zip(call, row, strict=True)))
            self.assertEqual(plain_picked(WEB, PETS, bodies, call), told[:-1])
            self.assertIn(told[0], ("none", "quarrel"))
            if told[0] == "quarrel":
                self.assertNotIn("none", [answer[0] for answer in answers], (bodies, row))
        others = [(name, list(line)) for name, line in bodies]
        self.assertEqual(settled(WEB, tuple(others), list(row)), told)
        return told

    def test_a_call_that_none_fits(self):
        bodies = told_bodies("cat, 1..9", "dog, any")
        self.assertEqual(self.check(bodies, row_of("cat, 1..10")), ("none", 1, ["cat", 10]))
        self.assertEqual(self.check(bodies, row_of("pet, 1"))[:2], ("none", 0))
        self.assertEqual(self.check(bodies, row_of("any, any"))[0], "none")
        self.assertEqual(self.check(told_bodies("none"), row_of("1"))[:2], ("none", 0))
        self.assertEqual(self.check(told_bodies("pet, wild, 1..9"), row_of("cat, lynx, 9.."))[:2], ("none", 2))

    def test_none_goes_ahead_of_a_quarrel(self):
        bodies = told_bodies("pet", "wild")
        self.assertEqual(self.check(bodies, row_of("any"))[:2], ("none", 0))
        self.assertEqual(self.check(bodies, row_of("cat|stone")), ("none", 0, ["stone"]))
        self.assertEqual(self.check(bodies, row_of("cat|1")), ("none", 0, [1]))

    def test_a_quarrel(self):
        bodies = told_bodies("pet", "wild", "stone")
        self.assertEqual(self.check(bodies, row_of("cat"))[:3], ("quarrel", "a", "b"))
        self.assertEqual(self.check(bodies, row_of("pet|wild|stone"))[:3], ("quarrel", "a", "b"))

    def test_all(self):
        bodies = told_bodies("pet", "wild", "cat", "any")
        self.assertEqual(self.check(bodies, row_of("any")), ("all", ["a", "b", "c", "d"]))
        self.assertEqual(self.check(bodies, row_of("pet")), ("all", ["a", "c"]))
        self.assertEqual(self.check(bodies, row_of("lynx")), ("all", ["c"]))
        self.assertEqual(self.check(bodies, row_of("dog|[any]")), ("all", ["a", "d"]))
        self.assertEqual(self.check(bodies[::-1], row_of("any")), ("all", ["a", "b", "c", "d"]))
        several = told_bodies("pet, any", "any, 1..9", "pet, 1..9", "any, any")
        self.assertEqual(self.check(several, row_of("cat, 5..20")), ("all", ["a", "c"]))

    def test_a_row_without_calls(self):
        for bodies in (told_bodies("pet", "wild"), told_bodies("none")):
            self.assertEqual(self.check(bodies, [NONE]), ("all", []))
        bodies = told_bodies("pet, 1", "wild, 2")
        self.assertEqual(self.check(bodies, row_of("any, none")), ("all", []))
        self.assertEqual(self.check(bodies, row_of("none, any")), ("all", []))

    def test_kinds_that_no_body_has(self):
        bodies = told_bodies("[cat|dog]", "[cat]", "[dog]", "[none]")
        self.assertEqual(self.check(bodies, row_of("[cat]|[dog]")), ("all", ["b", "c", "d"]))
        self.assertEqual(self.check(bodies, row_of("[lynx|dog]")), ("all", ["a", "b", "c", "d"]))
        self.assertEqual(self.check(bodies, row_of("[none]")), ("all", ["d"]))
        self.assertEqual(self.check(bodies, row_of("[pet]"))[:2], ("none", 0))

    def test_by_the_words(self):
        source = random.Random(23)
        pool = [ANY, NONE] + [kind(text) for text in BODY_KINDS]
        seen = {"none": 0, "quarrel": 0, "all": 0}
        for number in range(200):
            bodies = some_bodies(number)
            places = len(bodies[0][1])
            for row in ([source.choice(pool) for _ in range(places)], source.choice(bodies)[1],
                        [source.choice(bodies)[1][place] for place in range(places)]):
                seen[self.check(bodies, row)[0]] += 1
        self.assertGreater(min(seen.values()), 60)


class Kept(unittest.TestCase):

    def test_what_is_handed_in_stays_as_it_was(self):
        bodies = [("b", [kind("[pet]"), ANY]), ("a", [ANY, kind("cat")])]
        row = [kind("[cat]"), kind("pet")]
        kept = copy.deepcopy((bodies, row))
        looks(bodies)
        quarrels(WEB, bodies)
        settled(WEB, bodies, row)
        self.assertEqual((bodies, row), kept)

    def test_what_is_told_may_be_changed(self):
        bodies = told_bodies("[pet], any", "any, [wild]", "[[any]], [[any]]", "[cat]|[..], any")
        kept = repr((looks(bodies), quarrels(WEB, bodies)))
        told = quarrels(WEB, bodies)
        self.assertGreater(len(told), 1)
        for at, (one, other, call) in enumerate(told):
            others = repr(told[:at] + told[at + 1:])
            for thing in call:
                if isinstance(thing, list):
                    thing.append(3)
            call.append(5)
            self.assertEqual(repr(told[:at] + told[at + 1:]), others)
        told.clear()
        looks(bodies).clear()
        self.assertEqual(repr((looks(bodies), quarrels(WEB, bodies))), kept)

    def test_what_settles_may_be_changed(self):
        for texts, row in ((["[pet]", "[wild]"], "[cat]"), (["[pet]", "[wild]"], "[any]"),
                           (["[pet]", "[cat]"], "[cat]")):
            bodies = told_bodies(*texts)
            kept = repr(settled(WEB, bodies, row_of(row)))
            told = settled(WEB, bodies, row_of(row))
            for part in told[-1]:
                if isinstance(part, list):
                    part.append(4)
            told[-1].append("x")
            self.assertEqual(repr(settled(WEB, bodies, row_of(row))), kept)

    def test_webs_of_the_same_names_asked_by_turns(self):
        tuples = [("x", []), ("y", []), ("z", ["x", "y"])], [("x", []), ("y", ["x"]), ("z", ["y"])], [
            ("x", []), ("y", []), ("z", ["x"])]
        both, chain, one = [Web(told) for told in tuples]
        bodies = [("b", (rough(["x"]),)), ("a", (rough(["y"]),))]
        for _ in range(2):
            self.assertEqual([quarrels(web, bodies) for web in (both, chain, one)], [[("b", "a", ["z"])], [], []])
            self.assertEqual([settled(web, bodies, [rough(["z"])]) for web in (both, chain, one)], [
                ("quarrel", "b", "a", ["z"]), ("all", ["a"]), ("all", ["b"])])

    def test_bodies_of_the_same_names_asked_by_turns(self):
        for _ in range(2):
            self.assertEqual([row[:2] for row in quarrels(WEB, told_bodies("pet", "wild"))], [("a", "b")])
            self.assertEqual(quarrels(WEB, told_bodies("pet", "cat")), [])
            self.assertEqual(settled(WEB, told_bodies("pet", "cat"), row_of("lynx")), ("all", ["b"]))
            self.assertEqual(settled(WEB, told_bodies("cat", "pet"), row_of("lynx")), ("all", ["a"]))


if __name__ == "__main__":
    unittest.main()
