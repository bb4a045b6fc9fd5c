"""lines: [20], and [2] of lines."""

import copy
import itertools
import random
import unittest

from fitmost.bodies import picked
from fitmost.errors import NoBody
from fitmost.lines import line, onward
from fitmost.webs import Web
from samples import ANY, PETS, kind, pets, plain_calls, plain_line, rough, sample_things, some_bodies, told_bodies

WEB = pets()


class Line(unittest.TestCase):

    def check(self, rows, call, wanted):
        bodies = told_bodies(*rows)
        for told in (bodies, tuple(bodies), [(name, list(row)) for name, row in bodies]):
            for things in (list(call), tuple(call)):
                answer = line(WEB, told, things)
                self.assertEqual(answer, list(wanted))
                self.assertIs(type(answer), list)

    def test_none_fits(self):
        self.check(["cat", "dog"], ["stone"], "")
        self.check(["cat, 1", "dog, 1"], ["cat", 2], "")
        self.assertEqual(line(WEB, [], ["cat"]), [])
        self.assertEqual(line(WEB, (), ()), [])

    def test_one_fits(self):
        self.check(["cat", "dog"], ["dog"], "b")
        self.check(["cat, any, any", "any, 1, 2"], [1, 1, 2], "b")

    def test_one_closer_than_the_next(self):
        for order in itertools.permutations(["any", "pet|wild", "pet", "cat"]):
            names = ["abcd"[order.index(row)] for row in ("cat", "pet", "pet|wild", "any")]
            self.check(order, ["lynx"], names)
            self.check(order, ["dog"], names[1:])
            self.check(order, [None], names[3:])

    def test_bodies_that_are_not_closer_stand_as_in_the_list(self):
        self.check(["pet", "wild"], ["cat"], "ab")
        self.check(["wild", "pet"], ["cat"], "ab")
        self.check(["1..9", "..5", "3..", "2..20"], [4], "abcd")

    def test_the_first_of_those_left_than_which_none_left_is_closer(self):
        # Not by how close it is, and not group by group: behind b nothing that is left is closer than a.
        self.check(["pet", "cat", "wild", "any"], ["lynx"], "bacd")
        self.check(["any", "pet", "wild", "cat"], ["lynx"], "dbca")
        self.check(["pet|1", "pet", "wild"], ["cat"], "bac")
        self.check(["wild|1", "pet", "wild"], ["cat"], "bca")
        self.check(["pet, any", "any, wild", "cat, any", "any, cat"], ["cat", "cat"], "cadb")

    def test_by_the_words(self):
        source = random.Random(20)
        things = sample_things()
        longest = 0
        for number in range(120):
            bodies = some_bodies(number)
            places = len(bodies[0][1])
            calls = plain_calls(WEB, bodies, [ANY] * places)
            calls = source.sample(calls, min(6, len(calls))) + [source.choices(things, k=places)]
            for call in calls:
                told = line(WEB, bodies, call)
                self.assertEqual(told, plain_line(WEB, PETS, bodies, call), (bodies, call))
                first = picked(WEB, bodies, call)
                if first[0] == "one":
                    self.assertEqual(told[0], first[1])
                elif first[0] == "quarrel":
                    self.assertEqual(told[0], first[1])
                    self.assertIn(first[2], told)
                else:
                    self.assertEqual(told, [])
                longest = max(longest, len(told))
        self.assertGreaterEqual(longest, 5)


class Onward(unittest.TestCase):

    def test_each_name_in_the_line(self):
        bodies = told_bodies("any", "pet", "wild", "cat", "dog")
        for told in (bodies, tuple(bodies)):
            for call in (["lynx"], ("lynx",)):
                names = [onward(WEB, told, call, name) for name in "abcd"]
                self.assertEqual(names, [None, "c", "a", "b"])

    def test_by_the_line(self):
        for number in range(60):
            bodies = some_bodies(number)
            for call in plain_calls(WEB, bodies, [ANY] * len(bodies[0][1]))[::5]:
                names = plain_line(WEB, PETS, bodies, call)
                for name, behind in zip(names, names[1:] + [None]):
                    self.assertEqual(onward(WEB, bodies, call, name), behind)
                for name in set("abcdefgh") - set(names):
                    with self.assertRaises(NoBody):
                        onward(WEB, bodies, call, name)

    def test_refused(self):
        bodies = told_bodies("cat", "dog")
        for call, name in ((["cat"], "b"), (["cat"], "c"), (["cat"], "cat"), (["cat"], ""), (["stone"], "a"),
                           (["cat"], "on")):
            with self.subTest(name), self.assertRaises(NoBody) as caught:
                onward(WEB, bodies, call, name)
            self.assertIs(type(caught.exception), NoBody)
        with self.assertRaises(NoBody):
            onward(WEB, [], ["cat"], "a")


class Kept(unittest.TestCase):

    def test_what_is_handed_in_stays_as_it_was(self):
        bodies, call = [("b", [kind("[pet]"), ANY]), ("a", [ANY, kind("cat")])], [["cat"], "cat"]
        kept = copy.deepcopy((bodies, call))
        line(WEB, bodies, call)
        onward(WEB, bodies, call, "a")
        self.assertEqual((bodies, call), kept)

    def test_what_is_told_may_be_changed(self):
        bodies = told_bodies("any", "pet", "cat")
        for _ in range(2):
            told = line(WEB, bodies, ["cat"])
            self.assertEqual(told, ["c", "b", "a"])
            told.clear()
        self.assertEqual(onward(WEB, bodies, ["cat"], "c"), "b")

    def test_webs_of_the_same_names_asked_by_turns(self):
        up, down, flat = [Web(tuples) for tuples in (
            [("x", ["y"]), ("y", [])], [("x", []), ("y", ["x"])], [("x", []), ("y", [])])]
        bodies = [("b", (rough(["y"]),)), ("a", (rough(["x"]),))]
        for _ in range(2):
            self.assertEqual([line(web, bodies, ["x"]) for web in (up, down, flat)], [["a", "b"], ["a"], ["a"]])
            self.assertEqual([line(web, bodies, ["y"]) for web in (up, down, flat)], [["b"], ["b", "a"], ["b"]])

    def test_bodies_of_the_same_names_asked_by_turns(self):
        for _ in range(2):
            self.assertEqual(line(WEB, told_bodies("cat", "pet"), ["lynx"]), ["a", "b"])
            self.assertEqual(line(WEB, told_bodies("pet", "cat"), ["lynx"]), ["b", "a"])
            self.assertEqual(line(WEB, told_bodies("pet", "stone"), ["lynx"]), ["a"])


if __name__ == "__main__":
    unittest.main()
