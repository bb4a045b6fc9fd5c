"""foes: [27] of the foe, [22] of foe, and [2] of foes."""

import copy
import itertools
import random
import unittest

from fitmost.errors import TooMany
from fitmost.foes import foe
from fitmost.quarrels import looks
from fitmost.trees import depth, grown
from fitmost.webs import Web
from samples import (PETS, kind, pets, plain_answer, plain_depth, plain_is_of, rough, some_bodies, told_bodies)

WEB = pets()


class Foe(unittest.TestCase):

    def check(self, bodies, some):
        """That what the foe says is so; it is told."""
        told = foe(WEB, bodies, some)
        self.assertEqual([type(part) for part in (told, *told)], [tuple, list, list, list])
        said, call, other = told
        self.assertEqual(len(said), len(some))
        for (place, look), so in zip(some, said):
            self.assertIs(type(so), bool)
            self.assertIs(plain_is_of(PETS, call[place], look), so)
            self.assertIs(plain_is_of(PETS, other[place], look), so)
        self.assertEqual({len(call), len(other)}, {len(bodies[0][1])})
        self.assertNotEqual(plain_answer(bodies, call), plain_answer(bodies, other), (bodies, some))
        return said

    def test_no_looks(self):
        for rows in (("cat",), ("any", "cat"), ("pet", "wild"), ("any, cat", "1, any")):
            self.assertEqual(self.check(told_bodies(*rows), []), [])

    def test_plainly(self):
        bodies = told_bodies("1", "2", "3", "4", "5", "6")
        # Each look can part one of them alone, so the foe says no to each.
        for many in range(6):
            some = looks(bodies)[:many]
            self.assertEqual(self.check(bodies, some), [False] * many)
        chain = told_bodies("lynx", "cat", "pet", "any")
        self.assertEqual(self.check(chain, [(0, kind("pet"))]), [True])
        self.assertEqual(self.check(chain, [(0, kind("lynx"))]), [False])

    def test_every_row_of_looks_that_is_short_enough(self):
        depths, many = set(), 0
        for number in range(110):
            bodies = some_bodies(number)
            asked, deep = looks(bodies), plain_depth(bodies)
            if not deep or len(asked) ** (deep - 1) > 130:
                continue
            depths.add(deep)
            told = {(): []}
            for length in range(deep):
                for some in itertools.product(asked, repeat=length):
                    said = self.check(bodies, list(some))
                    numbers = tuple(asked.index(look) for look in some)
                    told[numbers] = said
                    # What is said to the row without its last look is the beginning of what is said to it.
                    self.assertEqual(said[:-1], told[numbers[:-1]])
                    many += 1
        self.assertEqual(depths, {1, 2, 3, 4})
        self.assertGreater(many, 1500)

    def test_longer_rows_of_looks(self):
        source = random.Random(27)
        depths = set()
        for number in range(125):
            bodies = some_bodies(number)
            asked, deep = looks(bodies), plain_depth(bodies)
            if deep < 4:
                continue
            depths.add(deep)
            for _ in range(3):
                some = [source.choice(asked) for _ in range(deep - 1)]
                said = self.check(bodies, some)
                for length in range(deep - 1):
                    self.assertEqual(foe(WEB, bodies, some[:length])[0], said[:length])
                some = source.sample(asked, deep - 1)
                self.check(bodies, some)
        self.assertEqual(depths, {4, 5, 6})

    def test_a_look_twice(self):
        bodies = told_bodies("1, 1", "2, 2", "3, 3")
        for look in looks(bodies):
            for many in range(4):
                said = self.check(bodies, [look] * many)
                self.assertLessEqual(len(set(said)), 1)

    def test_the_looks_of_the_tree_itself(self):
        for number in range(200):
            bodies = some_bodies(number)
            tree = grown(WEB, bodies)
            deep, some = depth(tree), []
            while len(some) < deep - 1:
                self.assertEqual(tree[0], "look")
                some.append(tree[1:3])
                said = self.check(bodies, some)
                tree = tree[3] if said[-1] else tree[4]
            if deep:
                # One look less than its depth leaves the tree with one to ask.
                self.assertEqual(tree[0], "look")

    def test_no_way_to_ask_goes_with_fewer_looks(self):
        """Whatever is asked behind what the foe has said, it has two calls left."""
        source = random.Random(7)
        for number in range(120):
            bodies = some_bodies(number)
            asked, deep, some = looks(bodies), plain_depth(bodies), []
            for _ in range(deep - 1):
                some.append(source.choice([look for look in asked if look not in some]))
                self.check(bodies, tuple(some))

    def test_too_many_looks(self):
        source = random.Random(22)
        six = told_bodies("1", "2", "3", "4", "5", "6", "any", "none")
        wide = told_bodies("1, cat, any", "2, dog, none", "any, 3, [any]", "none, any, [any]", "1, dog, any")
        for bodies in (six, wide):
            for _ in range(5):
                told = source.sample(bodies, len(bodies))
                self.check(told, looks(told)[:2])
        seven = told_bodies("1", "2", "3", "4", "5", "6", "7")
        for bodies in (seven, wide + [("g", (kind("any"), kind("4"), kind("1")))]):
            for _ in range(5):
                told = source.sample(bodies, len(bodies))
                for some in ([], looks(bodies)[:1], [(0, kind("cat"))]):
                    with self.assertRaises(TooMany) as caught:
                        foe(WEB, told, some)
                    self.assertIs(type(caught.exception), TooMany)


class Kept(unittest.TestCase):

    def test_what_is_handed_in_stays_as_it_was(self):
        bodies = [("b", [kind("[pet]"), kind("any")]), ("a", [kind("any"), kind("cat")])]
        some = [(0, kind("[pet]"))]
        kept = copy.deepcopy((bodies, some))
        told = foe(WEB, bodies, some)
        told_then = copy.deepcopy(told)
        self.assertEqual((bodies, some), kept)
        self.assertEqual(foe(WEB, tuple((name, tuple(row)) for name, row in bodies), tuple(some)), told)
        some.clear()
        bodies[0][1][0] = kind("dog")
        bodies.clear()
        self.assertEqual(told, told_then)

    def test_what_is_told_may_be_changed(self):
        bodies = told_bodies("[[1..9]], any", "[[1..5]], cat", "[[1..5]], any")
        some = [(0, kind("[[1..9]]"))]
        told = foe(WEB, bodies, some)
        kept = copy.deepcopy(told)
        lists = list(told)
        while lists:
            one = lists.pop()
            lists += [part for part in one if isinstance(part, list)]
            one.append("stone")
        self.assertEqual(foe(WEB, bodies, some), kept)

    def test_no_two_lists_of_it_are_one(self):
        # Both calls have one and the same list, by what it has, at place 0.
        bodies = told_bodies("[1], any", "[1], cat")
        said, call, other = foe(WEB, bodies, [(0, kind("[1]"))])
        self.assertEqual((said, call[0]), ([True], other[0]))
        self.assertIsNot(call[0], other[0])

    def test_webs_of_the_same_names_asked_by_turns(self):
        tuples = [("x", []), ("y", []), ("z", ["x", "y"])], [("x", []), ("y", ["x"]), ("z", ["y"])]
        both, chain = [Web(told) for told in tuples]
        bodies = [("b", (rough(["x"]),)), ("a", (rough(["y"]),))]
        some = [(0, rough(["y"]))]
        kept = foe(both, bodies, some), foe(chain, bodies, some)
        for _ in range(2):
            self.assertEqual((foe(both, bodies, some), foe(chain, bodies, some)), kept)
        # In the chain a y is an x, so a yes to y would leave one answer alone.
        self.assertEqual(kept[1][0], [False])

    def test_bodies_of_the_same_names_asked_by_turns(self):
        some = [(0, kind("cat"))]
        for _ in range(2):
            self.assertEqual(foe(WEB, told_bodies("cat", "pet"), some)[0], [False])
            self.assertEqual(foe(WEB, told_bodies("cat", "lynx"), some)[0], [True])


if __name__ == "__main__":
    unittest.main()
