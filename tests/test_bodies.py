"""bodies: [17], [18], [19], and [2] of bodies."""

import copy
import itertools
import random
import unittest

from fitmost.bodies import closer, fits, looked_over, picked
from fitmost.errors import Alike, NoName, NoPlaces, Taken
from fitmost.webs import Web
from samples import (ANY, NONE, PETS, kind, pets, plain_closer, plain_fits, plain_picked, random_bodies, rough,
                     sample_things, told_bodies)

WEB = pets()
CAT, DOG, PET = kind("cat"), kind("dog"), kind("pet")


class LookedOver(unittest.TestCase):

    def refused(self, error, bodies):
        """The refusal of bodies, told with rows as tuples and as lists, the list as a tuple."""
        for told in (bodies, [(name, list(row)) for name, row in bodies], tuple(bodies)):
            with self.subTest(told), self.assertRaises(error) as caught:
                looked_over(told)
            self.assertIs(type(caught.exception), error)
        return caught.exception

    def test_let_by(self):
        rows = [(one, other) for one in (CAT, DOG, PET, ANY) for other in (NONE, CAT)]
        for bodies in ([], [("a", (CAT,))], [("a", (CAT, CAT, CAT))], told_bodies("cat", "dog", "any", "none"),
                       list(zip("abcdefgh", rows)), [("a", (CAT, DOG)), ("b", (DOG, CAT))]):
            self.assertIsNone(looked_over(bodies))
            self.assertIsNone(looked_over(tuple((name, list(row)) for name, row in bodies)))

    def test_names(self):
        for name in ("", "any", "on", "A", "abcdefghi", "a1", None, 3, True, ("a",), ["a"], b"a"):
            self.refused(NoName, [(name, (CAT,))])
            self.refused(NoName, [("a", (CAT,)), (name, (DOG,)), ("b", (PET,))])

    def test_taken(self):
        self.refused(Taken, [("a", (CAT,)), ("a", (DOG,))])
        self.refused(Taken, [("a", (CAT,)), ("b", (PET,)), ("a", (DOG,))])

    def test_places(self):
        self.refused(NoPlaces, [("a", ())])
        self.refused(NoPlaces, [("a", (CAT,) * 4)])
        self.refused(NoPlaces, [("a", (CAT,)), ("b", ())])
        self.refused(NoPlaces, [("a", (CAT, CAT)), ("b", (CAT,))])
        self.refused(NoPlaces, [("a", (CAT,)), ("b", (DOG,)), ("c", (CAT, CAT))])
        self.refused(NoPlaces, [("a", (CAT,) * 4), ("b", (DOG,) * 4)])
        self.refused(NoPlaces, [("a", (CAT,) * 3), ("b", (DOG,) * 4)])
        self.refused(NoPlaces, [("a", ()), ("b", ())])

    def test_alike(self):
        for bodies, wanted in (
                ([("a", (CAT,)), ("b", (CAT,))], {("a", "b")}),
                ([("b", (CAT,)), ("a", (CAT,))], {("b", "a")}),
                ([("c", (DOG, CAT)), ("b", (CAT, DOG)), ("d", (DOG, DOG)), ("a", (CAT, DOG))], {("b", "a")}),
                ([("c", (ANY,)), ("b", (ANY,)), ("a", (ANY,))], {("c", "b"), ("c", "a"), ("b", "a")})):
            error = self.refused(Alike, bodies)
            self.assertIn((error.one, error.other), wanted)

    def test_alike_by_rows_of_either_form(self):
        with self.assertRaises(Alike) as caught:
            looked_over([("b", [CAT, DOG]), ("a", (CAT, DOG))])
        self.assertEqual((caught.exception.one, caught.exception.other), ("b", "a"))

    def test_two_of_them_at_once(self):
        name, taken, places, alike = ("On", (PET,)), [("a", (PET,)), ("a", (ANY,))], ("p", ()), [
            ("x", (CAT,)), ("y", (CAT,))]
        for first, bodies in ((NoName, [name, *taken]), (NoName, [name, places]), (NoName, [name, *alike]),
                              (Taken, [*taken, places]), (Taken, [*taken, *alike]), (NoPlaces, [places, *alike]),
                              (NoName, [("On", (PET,)), ("On", (ANY,))]), (NoName, [("On", ())]),
                              (Taken, [("a", ()), ("a", (ANY,))]), (Taken, [("a", (ANY,)), ("a", (ANY,))]),
                              (NoPlaces, [("a", ()), ("b", ())]), (NoPlaces, [("a", (CAT,) * 4), ("b", (CAT,) * 4)])):
            for told in itertools.permutations(bodies):
                self.refused(first, list(told))


class Fits(unittest.TestCase):

    def check(self, row, calls, others):
        body = ("a", tuple(kind(text) for text in row.split(", ")))
        for told in (body, ("a", list(body[1]))):
            for call, wanted in [(call, True) for call in calls] + [(call, False) for call in others]:
                with self.subTest(repr((row, call))):
                    self.assertIs(fits(WEB, told, call), wanted)
                    self.assertIs(fits(WEB, told, tuple(call)), wanted)

    def test_one_place(self):
        self.check("pet|1..9", [["cat"], ["lynx"], [1], [9]], [["wild"], [0], [None], [[]], [["cat"]]])
        self.check("any", [[None], [[]], [0]], [])
        self.check("none", [], [[None], [[]], [0], ["cat"]])
        self.check("[cat]", [[[]], [["cat", "lynx"]]], [["cat"], [["dog"]]])

    def test_two_and_three_places(self):
        self.check("cat, 1..9", [["cat", 1], ["lynx", 9]], [[1, "cat"], ["cat", 0], ["dog", 1], ["cat", "cat"], [1, 1]])
        self.check("cat, any, [..]", [["cat", None, []], ["lynx", "dog", [4]]],
                   [["dog", None, []], ["cat", None, ["cat"]], ["cat", None, None]])
        self.check("any, any, none", [], [[1, 2, 3], [None, None, None]])


class Closer(unittest.TestCase):

    def check(self, one, other, wanted):
        one, other = told_bodies(one, other)
        for first in (one, ("a", list(one[1]))):
            for second in (other, ("b", list(other[1]))):
                self.assertIs(closer(WEB, first, second), wanted)

    def test_one_place(self):
        self.check("cat", "pet", True)
        self.check("pet", "cat", False)
        self.check("cat", "cat", False)
        self.check("cat", "dog", False)
        self.check("none", "cat", True)
        self.check("cat", "any", True)
        self.check("any", "none", False)
        self.check("[cat]|[dog]", "[cat|dog]", True)
        self.check("[cat|dog]", "[cat]|[dog]", False)

    def test_two_and_three_places(self):
        self.check("cat, 1", "pet, 1..9", True)
        self.check("cat, 1", "cat, 1..9", True)
        self.check("cat, 1", "pet, 1", True)
        self.check("cat, 1", "cat, 1", False)
        self.check("cat, 1..9", "pet, 1", False)
        self.check("pet, 1", "cat, 1..9", False)
        self.check("cat, dog", "dog, cat", False)
        self.check("cat, cat, cat", "cat, cat, pet", True)
        self.check("cat, cat, pet", "pet, pet, cat", False)
        self.check("none, any, any", "any, none, any", False)
        self.check("none, none, 1", "none, none, ..", True)

    def test_by_the_words(self):
        source = random.Random(18)
        pool = [kind(text) for text in ("any", "none", "cat", "pet", "wild", "..", "1..9", "[any]", "[cat]|[dog]")]
        for places in (1, 2, 3):
            for _ in range(200):
                one, other = [("a", tuple(source.choice(pool[places:]) for _ in range(places))) for _ in range(2)]
                self.assertIs(closer(WEB, one, other), plain_closer(WEB, one, other))


class Picked(unittest.TestCase):

    def check(self, rows, call, wanted):
        bodies = told_bodies(*rows)
        for told in (bodies, tuple(bodies), [(name, list(row)) for name, row in bodies]):
            for things in (list(call), tuple(call)):
                answer = picked(WEB, told, things)
                self.assertEqual(answer, wanted)
                self.assertIs(type(answer), tuple)

    def test_one(self):
        self.check(["pet"], ["cat"], ("one", "a"))
        self.check(["pet", "cat", "any"], ["lynx"], ("one", "b"))
        self.check(["pet", "cat", "any"], ["dog"], ("one", "a"))
        self.check(["pet", "cat", "any"], [None], ("one", "c"))
        self.check(["pet", "wild"], ["dog"], ("one", "a"))
        self.check(["pet, any", "any, 1..9", "cat, 3"], ["cat", 3], ("one", "c"))
        self.check(["any, any, any", "any, any, cat", "any, pet, cat"], [0, "cat", "lynx"], ("one", "c"))
        self.check(["[cat]", "[dog]", "[none]"], [[]], ("one", "c"))

    def test_a_quarrel(self):
        self.check(["pet", "wild"], ["cat"], ("quarrel", "a", "b"))
        self.check(["wild", "pet"], ["cat"], ("quarrel", "a", "b"))
        self.check(["pet, any", "any, 1..9"], ["cat", 3], ("quarrel", "a", "b"))
        self.check(["[cat]", "[dog]"], [[]], ("quarrel", "a", "b"))

    def test_a_quarrel_of_the_first_two_than_which_none_that_fits_is_closer(self):
        self.check(["any", "pet|1", "wild", "pet"], ["cat"], ("quarrel", "c", "d"))
        self.check(["any, any", "pet, 1..9", "any, 1..3", "cat, any"], ["cat", 2], ("quarrel", "b", "c"))
        self.check(["1..9", "..5", "3..", "2..20"], [4], ("quarrel", "a", "b"))
        self.check(["1..9", "..5", "3..", "2..20", "1..5"], [4], ("quarrel", "c", "d"))
        self.check(["cat, any", "stone, stone", "any, cat"], ["lynx", "lynx"], ("quarrel", "a", "c"))

    def test_one_that_does_not_fit_has_no_bearing(self):
        self.check(["pet", "wild", "lynx"], ["cat"], ("quarrel", "a", "b"))
        self.check(["pet", "wild", "lynx"], ["lynx"], ("one", "c"))
        self.check(["any", "pet", "none"], ["cat"], ("one", "b"))

    def test_none_at_each_place(self):
        self.check(["cat"], ["dog"], ("none", 0))
        self.check(["cat, 1", "dog, 2"], ["pet", 1], ("none", 0))
        self.check(["cat, 1", "dog, 2"], ["cat", 2], ("none", 1))
        self.check(["cat, 1", "dog, 2"], ["dog", 3], ("none", 1))
        self.check(["cat, 1, any", "dog, any, any"], ["stone", 1, 1], ("none", 0))
        self.check(["cat, 1, 1", "dog, any, 2", "stone, any, any"], ["cat", 2, 2], ("none", 1))
        self.check(["cat, 1, 1", "dog, any, 2", "any, any, 3"], ["dog", 7, 7], ("none", 2))
        self.check(["cat, none, any", "dog, any, any"], ["cat", 1, 1], ("none", 1))
        self.check(["none, any, any", "any, none, any", "any, any, none"], [1, 1, 1], ("none", 2))

    def test_no_bodies(self):
        for call in ([], [1], [1, "cat"], [None, None, None]):
            self.assertEqual(picked(WEB, [], call), ("none", 0))
            self.assertEqual(picked(WEB, (), tuple(call)), ("none", 0))

    def test_by_the_words(self):
        source = random.Random(19)
        texts = ("any", "none", "cat", "pet", "wild", "pet|wild", "dog|stone", "..", "1..9", "..5", "3", "[any]",
                 "[cat]|[dog]", "[cat|dog]", "[none]", "[[..]]", "cat|1..9|[..]")
        pool = [kind(text) for text in texts]
        things = sample_things()[:60] + [["cat"], ["dog", "cat"], ["dog"], [[1]]]
        told = {"one": 0, "quarrel": 0, "none": 0}
        for _ in range(1500):
            places = source.randint(1, 3)
            bodies = random_bodies(source, pool, places, source.randint(1, 8))
            self.assertIsNone(looked_over(bodies))
            for _ in range(8):
                call = [source.choice(things) for _ in range(places)]
                answer = picked(WEB, bodies, call)
                self.assertEqual(answer, plain_picked(WEB, PETS, bodies, call), (bodies, call))
                for body in bodies:
                    self.assertEqual(fits(WEB, body, call), plain_fits(PETS, body, call))
                told[answer[0]] += 1
        self.assertGreater(min(told.values()), 150)


class Kept(unittest.TestCase):

    def test_what_is_handed_in_stays_as_it_was(self):
        bodies = [("b", [PET, ANY]), ("a", [ANY, CAT])]
        call = [["cat", []], "cat"]
        kept = copy.deepcopy((bodies, call))
        looked_over(bodies)
        picked(WEB, bodies, call)
        fits(WEB, bodies[0], call)
        closer(WEB, bodies[0], bodies[1])
        self.assertEqual((bodies, call), kept)

    def test_changed_afterwards_it_has_no_bearing(self):
        bodies, call = [("b", [PET, ANY]), ("a", [ANY, CAT])], ["cat", "cat"]
        answer = picked(WEB, bodies, call)
        bodies[0][1].clear()
        bodies.clear()
        call.clear()
        self.assertEqual(answer, ("quarrel", "b", "a"))

    def test_webs_of_the_same_names_asked_by_turns(self):
        up, down, flat = [Web(tuples) for tuples in (
            [("x", ["y"]), ("y", [])], [("x", []), ("y", ["x"])], [("x", []), ("y", [])])]
        bodies = [("a", (rough(["x"]),)), ("b", (rough(["y"]),))]
        for _ in range(2):
            for web, ways in ((up, (True, False)), (down, (False, True)), (flat, (False, False))):
                self.assertEqual((closer(web, bodies[0], bodies[1]), closer(web, bodies[1], bodies[0])), ways)
                self.assertEqual([picked(web, bodies, [thing]) for thing in ("x", "y")], [("one", "a"), ("one", "b")])
            self.assertEqual([fits(web, bodies[0], ["y"]) for web in (up, down, flat)], [False, True, False])
            self.assertEqual([fits(web, bodies[1], ["x"]) for web in (up, down, flat)], [True, False, False])

    def test_bodies_of_the_same_names_asked_by_turns(self):
        for _ in range(2):
            self.assertEqual(picked(WEB, told_bodies("cat", "pet"), ["lynx"]), ("one", "a"))
            self.assertEqual(picked(WEB, told_bodies("pet", "cat"), ["lynx"]), ("one", "b"))
            self.assertEqual(picked(WEB, told_bodies("pet", "wild"), ["lynx"]), ("quarrel", "a", "b"))


if __name__ == "__main__":
    unittest.main()
