"""trees: [26], [27] of what is grown, [22] of grown, and [2] of trees."""

import copy
import itertools
import random
import unittest

from fitmost.errors import FitError, TooMany
from fitmost.kinds import any_kind, none_kind
from fitmost.quarrels import looks
from fitmost.trees import depth, grown, walked
from fitmost.webs import Web
from samples import (ANY, NONE, PETS, kind, outcomes, pets, plain_answer, plain_calls, plain_depth, plain_is_of, rough,
                     sample_things, some_bodies, told_bodies)

WEB = pets()
CAT, PET, DIGIT = kind("cat"), kind("pet"), kind("0..9")
YES, NO, LACK = ("tell", ("one", "a")), ("tell", ("one", "b")), ("tell", ("none",))


def plain_depth_of(tree):
    """The depth of a tree, by the words alone."""
    return 0 if tree[0] == "tell" else 1 + max(plain_depth_of(tree[3]), plain_depth_of(tree[4]))


def plain_walk(tree, call):
    """Where a call comes in a tree, by the words alone."""
    if tree[0] == "tell":
        return (tree[1], [])
    so = plain_is_of(PETS, call[tree[1]], tree[2])
    answer, said = plain_walk(tree[3] if so else tree[4], call)
    return (answer, [so] + said)


def looks_in(tree):
    """All looks that a tree asks."""
    return [] if tree[0] == "tell" else [tree[1:3]] + looks_in(tree[3]) + looks_in(tree[4])


def all_trees(asked, answers, deep):
    """All trees of some looks, by their numbers, and answers, that are at most so deep."""
    for answer in answers:
        yield ("tell", answer)
    if deep:
        below = list(all_trees(asked, answers, deep - 1))
        for look in asked:
            for yes, no in itertools.product(below, repeat=2):
                yield ("look", look, yes, no)


def comes_to(tree, said):
    """The answer of a tree of all_trees, where the looks come to what is said."""
    while tree[0] == "look":
        tree = tree[2] if said[tree[1]] else tree[3]
    return tree[1]


class Depth(unittest.TestCase):

    def test_a_tree_that_tells_at_once(self):
        for answer in (("one", "a"), ("quarrel",), ("none",)):
            self.assertEqual(depth(("tell", answer)), 0)
            self.assertEqual(walked(WEB, ("tell", answer), ["cat"]), (answer, []))

    def test_one_look(self):
        tree = ("look", 0, CAT, YES, NO)
        self.assertEqual(depth(tree), 1)
        self.assertEqual(walked(WEB, tree, ["lynx"]), (("one", "a"), [True]))
        self.assertEqual(walked(WEB, tree, ["pet"]), (("one", "b"), [False]))
        self.assertEqual(walked(WEB, tree, [None]), (("one", "b"), [False]))

    def test_yes_and_no_of_unlike_depth(self):
        small = ("look", 1, DIGIT, YES, LACK)
        deep = ("look", 0, CAT, NO, small)
        for tree in (("look", 0, PET, deep, YES), ("look", 0, PET, YES, deep), ("look", 0, PET, deep, small),
                     ("look", 0, PET, small, deep)):
            self.assertEqual(depth(tree), 3)
        self.assertEqual(depth(("look", 0, PET, small, small)), 2)
        tree = ("look", 0, PET, deep, YES)
        self.assertEqual(walked(WEB, tree, ["dog", 3]), (("one", "a"), [True, False, True]))
        self.assertEqual(walked(WEB, tree, ["dog", 10]), (("none",), [True, False, False]))
        self.assertEqual(walked(WEB, tree, ["cat", 10]), (("one", "b"), [True, True]))
        self.assertEqual(walked(WEB, tree, ["stone", 10]), (("one", "a"), [False]))
        self.assertEqual(walked(WEB, tree, ("stone", 10)), (("one", "a"), [False]))

    def test_looks_asked_twice_and_ways_that_no_call_goes(self):
        # No thing is a cat and no pet, so nothing comes to the tree that is deep.
        deep = ("look", 0, DIGIT, ("look", 0, DIGIT, YES, LACK), NO)
        tree = ("look", 0, CAT, ("look", 0, CAT, ("look", 0, PET, YES, deep), deep), ("look", 0, CAT, deep, NO))
        self.assertEqual(depth(tree), 5)
        self.assertEqual(walked(WEB, tree, ["cat"]), (("one", "a"), [True, True, True]))
        self.assertEqual(walked(WEB, tree, [0]), (("one", "b"), [False, False]))

    def test_any_trees(self):
        source = random.Random(26)
        pool = [ANY, NONE] + [kind(text) for text in ("cat", "pet", "1..9", "[any]", "[cat]|[dog]", "[[..]]")]
        things = sample_things()

        def some_tree(most):
            if not most or source.random() < 0.15:
                return source.choice((YES, NO, LACK, ("tell", ("quarrel",))))
            return ("look", source.randint(0, 2), source.choice(pool), some_tree(most - 1), some_tree(most - 1))

        depths = set()
        for _ in range(150):
            tree = some_tree(source.randint(0, 7))
            depths.add(depth(tree))
            self.assertEqual(depth(tree), plain_depth_of(tree))
            for _ in range(5):
                call = [source.choice(things) for _ in range(3)]
                told = walked(WEB, tree, call)
                self.assertEqual(told, plain_walk(tree, call))
                self.assertEqual([type(part) for part in told], [tuple, list])
                self.assertLessEqual({type(so) for so in told[1]}, {bool})
        self.assertEqual(depths, set(range(8)))

    def test_a_tree_of_very_many_looks(self):
        tree = YES
        for _ in range(3000):
            tree = ("look", 0, CAT, LACK, tree)
        self.assertEqual(depth(tree), 3000)
        self.assertEqual(walked(WEB, tree, ["dog"]), (("one", "a"), [False] * 3000))


class Grown(unittest.TestCase):

    def check_right(self, bodies, tree):
        """That a tree is right for bodies, and asks their looks alone."""
        for call in plain_calls(WEB, bodies, [ANY] * len(bodies[0][1])):
            self.assertEqual(walked(WEB, tree, call)[0], plain_answer(bodies, call), (bodies, call))
        for look in looks_in(tree):
            self.assertIn(look, looks(bodies))

    def check_form(self, tree):
        """That a tree is made of tuples, as told."""
        self.assertIs(type(tree), tuple)
        if tree[0] == "tell":
            self.assertEqual(len(tree), 2)
            self.assertIs(type(tree[1]), tuple)
        else:
            self.assertEqual((tree[0], len(tree), type(tree[1]), type(tree[2])), ("look", 5, int, tuple))
            self.check_form(tree[3])
            self.check_form(tree[4])

    def test_all_calls_answered_alike(self):
        for bodies, answer in ((told_bodies("any"), ("one", "a")), (told_bodies("none"), ("none",)),
                               (told_bodies("any, any, any"), ("one", "a")),
                               (told_bodies("cat, none", "none, dog"), ("none",)),
                               (told_bodies("any, cat, none", "1, 2, none"), ("none",)),
                               (told_bodies("any, any", "cat, none"), ("one", "a"))):
            self.assertEqual(grown(WEB, bodies), ("tell", answer))

    def test_one_look(self):
        for text in ("cat", "1..9", "[none]", "[cat]|[dog]"):
            self.assertEqual(grown(WEB, told_bodies(text)), ("look", 0, kind(text), YES, LACK))
            self.assertEqual(grown(WEB, told_bodies(text, "any")), ("look", 0, kind(text), YES, NO))
            self.assertEqual(grown(WEB, told_bodies("any, " + text, "none, any")), ("look", 1, kind(text), YES, LACK))

    def test_kinds_within_one_another(self):
        # A row of kinds, each within the next: the middle one is asked first.
        chain = told_bodies("lynx", "cat", "pet", "any")
        tree = grown(WEB, chain)
        self.assertEqual(depth(tree), 2)
        self.check_right(chain, tree)
        seven = told_bodies("1", "1..2", "1..3", "1..4", "1..5", "1..6", "any")
        self.assertEqual(depth(grown(WEB, seven)), 3)
        self.check_right(seven, grown(WEB, seven))

    def test_kinds_that_have_nothing_in_common(self):
        for bodies, deep in ((told_bodies("1", "2", "3", "4", "5", "6"), 6), (told_bodies("stone", "..", "[any]"), 3),
                             (told_bodies("1, 1", "2, 2", "3, 3"), 4)):
            tree = grown(WEB, bodies)
            self.assertEqual(depth(tree), deep)
            self.assertEqual(plain_depth(bodies), deep)
            self.check_right(bodies, tree)

    def test_looks_that_have_no_bearing(self):
        # Whoever is of pet and wild is a cat, so the third body is the one for all of them; lynx fits nothing.
        bodies = told_bodies("pet, any", "wild, any", "cat, any", "lynx, none")
        tree = grown(WEB, bodies)
        self.assertEqual(depth(tree), 2)
        self.assertNotIn((0, kind("lynx")), looks_in(tree))
        self.check_right(bodies, tree)

    def test_by_the_words(self):
        sizes, depths = set(), set()
        for number in range(250):
            bodies = some_bodies(number)
            tree = grown(WEB, bodies)
            self.check_form(tree)
            self.check_right(bodies, tree)
            self.assertEqual(depth(tree), plain_depth(bodies), bodies)
            sizes.add((len(bodies), len(bodies[0][1])))
            depths.add(depth(tree))
        self.assertEqual({many for many, places in sizes}, {1, 2, 3, 4, 5, 6, 7, 8})
        self.assertEqual({places for many, places in sizes}, {1, 2, 3})
        self.assertEqual(depths, {0, 1, 2, 3, 4, 5, 6})

    def test_against_all_trees_of_less_depth(self):
        depths = []
        for number in range(400):
            bodies = some_bodies(number)
            rows = outcomes(bodies)
            asked, answers = range(len(looks(bodies))), sorted({answer for said, answer in rows})
            deep = depth(grown(WEB, bodies))
            if not deep or len(asked) ** deep * len(answers) ** (2 * deep - 2) > 1500:
                continue
            depths.append(deep)
            for tree in all_trees(asked, answers, deep - 1):
                self.assertTrue(any(comes_to(tree, said) != answer for said, answer in rows), (bodies, tree))
        self.assertEqual(set(depths), {1, 2, 3})
        self.assertGreater(len(depths), 60)

    def test_bodies_in_any_other_order(self):
        source = random.Random(27)
        for number in range(80):
            bodies = some_bodies(number)
            tree = grown(WEB, bodies)
            others = source.sample(bodies, len(bodies))
            other = grown(WEB, tuple((name, list(row)) for name, row in others))
            self.assertEqual(depth(other), depth(tree))
            for call in plain_calls(WEB, bodies, [ANY] * len(bodies[0][1])):
                self.assertEqual(walked(WEB, other, call)[0], walked(WEB, tree, call)[0])

    def test_too_many_looks(self):
        source = random.Random(22)
        six = told_bodies("1", "2", "3", "4", "5", "6", "any", "none")
        wide = told_bodies("1, cat, any", "2, dog, none", "any, 3, [any]", "none, any, [any]", "1, dog, any")
        for bodies in (six, wide):
            self.assertEqual(len(looks(bodies)), 6)
            for _ in range(5):
                told = source.sample(bodies, len(bodies))
                self.assertEqual(depth(grown(WEB, told)), plain_depth(bodies))
        for bodies in (told_bodies("1", "2", "3", "4", "5", "6", "7"), wide + [("g", (ANY, ANY, kind("[none]")))],
                       told_bodies("1, none", "2, none", "3, none", "4, none", "none, 1", "none, 2", "none, 3")):
            self.assertEqual(len(looks(bodies)), 7)
            for _ in range(5):
                with self.assertRaises(TooMany) as caught:
                    grown(WEB, source.sample(bodies, len(bodies)))
                self.assertIs(type(caught.exception), TooMany)
                self.assertIsInstance(caught.exception, FitError)


class Kept(unittest.TestCase):

    def test_what_is_handed_in_stays_as_it_was(self):
        bodies = [("b", [kind("[pet]"), any_kind()]), ("a", [none_kind(), kind("cat")])]
        call = [["cat"], "cat"]
        kept = copy.deepcopy((bodies, call))
        tree = grown(WEB, bodies)
        kept_tree = copy.deepcopy(tree)
        walked(WEB, tree, call)
        depth(tree)
        self.assertEqual((bodies, call), kept)
        bodies[0][1][0] = kind("dog")
        bodies.clear()
        self.assertEqual(tree, kept_tree)

    def test_what_is_told_may_be_changed(self):
        tree = grown(WEB, told_bodies("pet", "wild"))
        first = walked(WEB, tree, ["cat"])
        kept = copy.deepcopy(first)
        first[1].clear()
        self.assertEqual(walked(WEB, tree, ["cat"]), kept)
        second = walked(WEB, tree, ["cat"])
        walked(WEB, tree, ["dog"])
        self.assertEqual(second, kept)

    def test_webs_of_the_same_names_asked_by_turns(self):
        tuples = [("x", []), ("y", []), ("z", ["x", "y"])], [("x", []), ("y", ["x"]), ("z", ["y"])]
        both, chain = [Web(told) for told in tuples]
        bodies = [("b", (rough(["x"]),)), ("a", (rough(["y"]),))]
        for _ in range(2):
            for web, answer in ((both, ("quarrel",)), (chain, ("one", "a"))):
                tree = grown(web, bodies)
                self.assertEqual(walked(web, tree, ["z"])[0], answer)
                self.assertEqual(depth(tree), 2)
            self.assertEqual(walked(both, grown(both, bodies), ["y"])[0], ("one", "a"))

    def test_bodies_of_the_same_names_asked_by_turns(self):
        for _ in range(2):
            for rows in (("cat", "pet"), ("pet", "cat"), ("pet", "wild")):
                bodies = told_bodies(*rows)
                tree = grown(WEB, bodies)
                for thing in ("lynx", "dog", "wild", None):
                    self.assertEqual(walked(WEB, tree, [thing])[0], plain_answer(bodies, [thing]))


if __name__ == "__main__":
    unittest.main()
