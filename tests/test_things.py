"""things: [8], [10], the own kind of [12], and [2] of things."""

import copy
import unittest

from fitmost.kinds import any_kind, formed, within
from fitmost.things import is_of, own_kind
from fitmost.webs import Web
from samples import ANY, NONE, PETS, pets, plain_is_of, rough, rough_kinds, sample_things, span

WEB = pets()
GREAT = 10 ** 60 - 1


class IsOf(unittest.TestCase):

    def check(self, kind, things, others):
        for thing, wanted in [(thing, True) for thing in things] + [(thing, False) for thing in others]:
            with self.subTest(repr((thing, kind))):
                self.assertIs(is_of(WEB, thing, kind), wanted)

    def test_numbers_at_the_ends_and_beside_them(self):
        self.check(rough(spans=[span(1, 9)]), [1, 2, 8, 9], [0, 10, -1, GREAT, -GREAT])
        self.check(rough(spans=[span(3, 3)]), [3], [2, 4])
        self.check(rough(spans=[span(None, -2), span(0, 0), span(5, None)]), [-GREAT, -3, -2, 0, 5, 6, GREAT],
                   [-1, 1, 4])
        self.check(rough(spans=[span(-GREAT, 1 - GREAT), span(GREAT - 1, GREAT)]),
                   [-GREAT, 1 - GREAT, GREAT - 1, GREAT], [-GREAT - 1, 2 - GREAT, GREAT - 2, GREAT + 1, 0])
        self.check(rough(spans=[span()]), [0, GREAT, -GREAT], ["cat", None, [], [0]])

    def test_names(self):
        self.check(rough(["pet"]), ["pet", "cat", "dog", "lynx"], ["wild", "stone"])
        self.check(rough(["cat"]), ["cat", "lynx"], ["pet", "wild", "dog", "stone", 0, None, [], ["cat"]])
        self.check(rough(["dog", "lynx"]), ["dog", "lynx"], ["cat", "pet"])

    def test_the_blank(self):
        every = formed(WEB, WEB.names(), [span()], [ANY])
        self.check(ANY, [None, [None], [[None]]], [])
        self.check(every, [[None], [[None, 1]]], [None])

    def test_lists(self):
        kind = formed(WEB, [], [], [rough(["pet"]), rough(["stone"], [span(1, 9)])])
        self.check(kind, [[], ["cat"], ["cat", "dog", "cat"], [1], ["stone", 9, 1], ["stone"]],
                   [["wild"], ["cat", 1], ["cat", "stone"], [1, 2, 10], [None], [1, None], [[]], ["cat", []], "cat", 1])

    def test_lists_in_lists(self):
        kind = formed(WEB, [], [], [rough(inners=[rough(["cat"]), rough(["dog"])])])
        self.check(kind, [[], [[]], [["cat"], ["dog"], []], [["cat", "lynx"]]],
                   [[["cat", "dog"]], ["cat"], [["cat"], "cat"], [[[]]], [["cat"], [None]]])
        deep = formed(WEB, [], [], [rough(inners=[rough(["cat"], [], [rough(spans=[span(0, 0)])])])])
        self.check(deep, [[], [[]], [[[]]], [[[0, 0], "lynx"], []]], [[[[1]]], [[0]], [[[[]]]], [["cat", "dog"]]])

    def test_the_inner_none(self):
        self.check(rough(inners=[NONE]), [[]], [[None], [[]], [0], ["cat"], None, 0, "cat"])
        self.check(rough(inners=[rough(inners=[NONE])]), [[], [[]], [[], []]], [[[[]]], [0], [[], 0]])

    def test_any_and_none(self):
        things = [0, -GREAT, "cat", None, [], [None], [["cat", 1], []]]
        self.check(ANY, things, [])
        self.check(NONE, [], things)
        self.check(any_kind(), things, [])

    def test_no_whole_number_is_true_or_false(self):
        self.check(rough(spans=[span(0, 1)]), [0, 1], [True, False])

    def test_all_kinds_and_things(self):
        for kind in rough_kinds():
            for thing in sample_things():
                self.assertIs(is_of(WEB, thing, kind), plain_is_of(PETS, thing, kind), (thing, kind))


class OwnKind(unittest.TestCase):

    def test_plain(self):
        for number in (0, 5, -5, GREAT, -GREAT):
            self.assertEqual(own_kind(WEB, number), (False, (), (span(number, number),), ()))
        self.assertEqual(own_kind(WEB, "cat"), (False, ("cat",), (), ()))
        self.assertEqual(own_kind(WEB, None), ANY)

    def test_of_lists(self):
        self.assertEqual(own_kind(WEB, []), (False, (), (), (NONE,)))
        self.assertEqual(own_kind(WEB, [2, 1, "lynx", "cat"]), (False, (), (), ((False, ("cat",), (span(1, 2),), ()),)))
        self.assertEqual(own_kind(WEB, [1, None]), (False, (), (), (ANY,)))
        self.assertEqual(own_kind(WEB, [[]]), (False, (), (), (rough(inners=[NONE]),)))
        self.assertEqual(own_kind(WEB, [["dog"], [], ["cat"]]),
                         (False, (), (), (rough(inners=[rough(["cat"]), rough(["dog"])]),)))
        self.assertEqual(own_kind(WEB, [[[None]], 3]), (False, (), (), (rough(
            [], [span(3, 3)], [rough(inners=[ANY])]),)))

    def test_it_lies_within_just_those_kinds_of_which_the_thing_is(self):
        kinds = [ANY] + [formed(WEB, *kind[1:]) for kind in rough_kinds() if not kind[0]]
        things = sample_things()
        kinds += [own_kind(WEB, thing) for thing in things[::7]]
        for thing in things:
            own = own_kind(WEB, thing)
            self.assertTrue(plain_is_of(PETS, thing, own), thing)
            self.assertEqual(own if own[0] else formed(WEB, *own[1:]), own)
            for kind in kinds:
                self.assertEqual(within(WEB, own, kind), plain_is_of(PETS, thing, kind), (thing, kind))

    def test_sixty_things(self):
        thing = [list(range(at, at + 20, 2)) for at in range(5)]
        own = own_kind(WEB, thing)
        self.assertTrue(is_of(WEB, thing, own))
        self.assertFalse(is_of(WEB, thing + [[0, 1]], own))


class Kept(unittest.TestCase):

    def test_what_is_handed_in_stays_as_it_was(self):
        for thing in sample_things():
            kept = copy.deepcopy(thing)
            own = own_kind(WEB, thing)
            is_of(WEB, thing, own)
            self.assertEqual(thing, kept)

    def test_changed_afterwards_it_has_no_bearing(self):
        thing = ["dog", [1]]
        own = own_kind(WEB, thing)
        thing[1].append(2)
        thing.append("stone")
        self.assertEqual(own, (False, (), (), ((False, ("dog",), (), (rough(spans=[span(1, 1)]),)),)))
        self.assertFalse(is_of(WEB, thing, own))

    def test_webs_of_the_same_names_asked_by_turns(self):
        up, down = Web([("a", ["b"]), ("b", [])]), Web([("a", []), ("b", ["a"])])
        for _ in range(2):
            self.assertEqual((is_of(up, "a", rough(["b"])), is_of(up, "b", rough(["a"]))), (True, False))
            self.assertEqual((is_of(down, "a", rough(["b"])), is_of(down, "b", rough(["a"]))), (False, True))
            self.assertEqual(own_kind(up, ["a", "b"])[3], (rough(["b"]),))
            self.assertEqual(own_kind(down, ["a", "b"])[3], (rough(["a"]),))


if __name__ == "__main__":
    unittest.main()
