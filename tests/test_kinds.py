"""kinds: [10], [11], [12], the first sentence of [4], and [2] of kinds."""

import functools
import random
import unittest

from fitmost.kinds import any_kind, apart, formed, joined, met, none_kind, within
from fitmost.webs import Web
from samples import (ANY, NONE, PETS, pets, plain_is_of, plain_tops, retold, rough, rough_kinds, sample_things, span,
                     spans_in_one_form)

WEB = pets()


def form(kind):
    """The one form of a kind that is perhaps not in it."""
    return any_kind() if kind[0] else formed(WEB, *kind[1:])


@functools.lru_cache(None)
def all_kinds():
    """Unlike kinds in one form."""
    told = []
    for kind in rough_kinds():
        if form(kind) not in told:
            told.append(form(kind))
    return tuple(told)


@functools.lru_cache(None)
def all_things():
    """Sample things, and all those that show that one of the kinds does not lie in another."""
    told = sample_things()
    for one in all_kinds():
        for other in all_kinds():
            told += [thing for thing in apart(WEB, one, other) if thing not in told]
    return told


@functools.lru_cache(None)
def marks(kind):
    """For each of all things whether it is of a kind."""
    return tuple(plain_is_of(PETS, thing, kind) for thing in all_things())


class TestOfKinds(unittest.TestCase):

    def check_form(self, kind):
        """That a kind is in one form, by the words."""
        self.assertIs(type(kind), tuple)
        whole, names, spans, inners = kind
        self.assertIs(type(whole), bool)
        self.assertEqual([type(part) for part in kind[1:]], [tuple, tuple, tuple])
        if whole:
            self.assertEqual(kind, ANY)
        self.assertEqual(list(names), plain_tops(PETS, names))
        self.assertTrue(spans_in_one_form(spans))
        self.assertEqual(list(inners), sorted(inners))
        for at, inner in enumerate(inners):
            self.check_form(inner)
            for other in inners[:at] + inners[at + 1:]:
                self.check_shown(inner, other, apart(WEB, inner, other))

    def check_shown(self, one, other, told):
        """That a list has one thing, which is of the one kind and not of the other."""
        self.assertIs(type(told), list)
        self.assertEqual(len(told), 1, (one, other))
        self.assertTrue(plain_is_of(PETS, told[0], one), (one, other, told))
        self.assertFalse(plain_is_of(PETS, told[0], other), (one, other, told))


class Plain(TestOfKinds):

    def test_any_and_none(self):
        self.assertEqual(any_kind(), (True, (), (), ()))
        self.assertEqual(none_kind(), (False, (), (), ()))
        self.assertIs(any_kind()[0], True)
        self.assertIs(none_kind()[0], False)


class Formed(TestOfKinds):

    def test_of_nothing(self):
        for empty in ([], ()):
            self.assertEqual(formed(WEB, empty, empty, empty), NONE)

    def test_of_names(self):
        self.assertEqual(formed(WEB, ["lynx", "dog", "cat", "dog"], [], []), (False, ("cat", "dog"), (), ()))
        self.assertEqual(formed(WEB, ("wild", "pet", "lynx"), (), ()), (False, ("pet", "wild"), (), ()))

    def test_of_spans(self):
        spans = [span(5, 9), span(3, 1), span(1, 4)]
        self.assertEqual(formed(WEB, [], spans, []), (False, (), (span(1, 9),), ()))

    def test_of_inners(self):
        cat, dog, pet = rough(["cat"]), rough(["dog"]), rough(["pet"])
        self.assertEqual(formed(WEB, [], [], [dog, cat, dog]), (False, (), (), (cat, dog)))
        self.assertEqual(formed(WEB, [], [], [dog, pet, cat]), (False, (), (), (pet,)))
        self.assertEqual(formed(WEB, [], [], [NONE]), (False, (), (), (NONE,)))
        self.assertEqual(formed(WEB, [], [], [NONE, dog]), (False, (), (), (dog,)))
        self.assertEqual(formed(WEB, [], [], [dog, ANY, NONE]), (False, (), (), (ANY,)))

    def test_of_inners_that_are_in_no_one_form(self):
        inner = rough(["lynx", "cat"], [span(3, 4), span(1, 2)], [NONE, rough(["dog", "dog"])])
        wanted = (False, ("cat",), (span(1, 4),), ((False, ("dog",), (), ()),))
        self.assertEqual(formed(WEB, [], [], [inner]), (False, (), (), (wanted,)))
        self.assertEqual(formed(WEB, [], [], [inner, wanted]), (False, (), (), (wanted,)))
        deep = rough(inners=[rough(inners=[inner, wanted]), rough(inners=[wanted, NONE])])
        self.assertEqual(formed(WEB, [], [], [deep]), formed(WEB, [], [], [rough(inners=[rough(inners=[wanted])])]))

    def test_two_inners_are_not_their_join(self):
        apiece = formed(WEB, [], [], [rough(["cat"]), rough(["dog"])])
        together = formed(WEB, [], [], [rough(["cat", "dog"])])
        self.assertNotEqual(apiece, together)
        self.assertEqual(formed(WEB, [], [], [rough(["cat"]), rough(["cat", "dog"])]), together)

    def test_inners_stand_in_order(self):
        inners = [rough(spans=[span(2, 2)]), rough(spans=[span(None, 0)]), rough(["dog"]), rough(["cat"])]
        told = formed(WEB, [], [], inners)[3]
        self.assertEqual(told, (inners[1], inners[0], inners[3], inners[2]))

    def test_all_kinds_are_in_one_form(self):
        for kind in all_kinds():
            self.check_form(kind)

    def test_it_has_just_the_things_told(self):
        for kind in rough_kinds():
            self.assertEqual(marks(form(kind)), marks(kind), kind)

    def test_two_tellings_come_to_one_tuple(self):
        source = random.Random(8)
        for kind in rough_kinds():
            for _ in range(12):
                again = retold(source, kind)
                self.assertEqual(form(again), form(kind), (kind, again))

    def test_unlike_tuples_have_unlike_things(self):
        kinds = all_kinds()
        self.assertGreater(len(kinds), 50)
        self.assertEqual(len({marks(kind) for kind in kinds}), len(kinds))

    def test_formed_again_it_is_the_same(self):
        for kind in all_kinds():
            self.assertEqual(form(kind), kind)

    def test_what_is_told_may_be_handed_in_again_deeper_and_deeper(self):
        kind = formed(WEB, ["cat"], [], [])
        other = formed(WEB, ["pet"], [], [])
        for _ in range(20):
            kind, other = formed(WEB, [], [], [kind]), formed(WEB, ["dog"], [], [other, NONE])
        self.assertTrue(within(WEB, kind, other))
        self.assertFalse(within(WEB, other, kind))
        self.assertEqual(met(WEB, kind, other), kind)
        self.assertEqual(joined(WEB, kind, other), other)


class Within(TestOfKinds):

    def test_any_and_none(self):
        for kind in all_kinds():
            self.assertIs(within(WEB, kind, ANY), True)
            self.assertIs(within(WEB, NONE, kind), True)
            self.assertIs(within(WEB, ANY, kind), kind == ANY)
            self.assertIs(within(WEB, kind, NONE), kind == NONE)

    def test_only_the_blank_shows_it(self):
        every = formed(WEB, WEB.names(), [span()], [ANY])
        self.assertEqual(apart(WEB, ANY, every), [None])
        self.assertEqual(apart(WEB, every, ANY), [])

    def test_only_the_list_without_things_shows_it(self):
        self.assertEqual(apart(WEB, formed(WEB, [], [], [NONE]), formed(WEB, ["cat"], [], [])), [[]])

    def test_a_list_within_no_one_inner(self):
        apiece = formed(WEB, [], [], [rough(["cat"]), rough(["dog"])])
        together = formed(WEB, [], [], [rough(["cat", "dog"])])
        self.assertIs(within(WEB, apiece, together), True)
        self.assertIs(within(WEB, together, apiece), False)
        shown = apart(WEB, together, apiece)
        self.check_shown(together, apiece, shown)
        for thing in shown[0]:
            self.assertTrue(plain_is_of(PETS, thing, rough(["cat", "dog"])))

    def test_a_list_of_lists_within_no_one_inner(self):
        cats, dogs, lots = [rough(inners=[rough(names)]) for names in (["cat"], ["dog"], ["cat", "dog"])]
        apiece, together = formed(WEB, [], [], [cats, dogs]), formed(WEB, [], [], [rough(inners=[
            rough(["cat"]), rough(["dog"])])])
        most = formed(WEB, [], [], [lots])
        for one, other in ((together, apiece), (most, together), (most, apiece)):
            self.check_shown(one, other, apart(WEB, one, other))
            self.assertEqual(apart(WEB, other, one), [])

    def test_many_inners(self):
        inners = [rough(spans=[span(None, at - 1), span(at + 1, None)]) for at in range(8)]
        apiece = formed(WEB, [], [], inners)
        together = formed(WEB, [], [], [rough(spans=[span()])])
        self.assertEqual(len(apiece[3]), 8)
        self.check_shown(together, apiece, apart(WEB, together, apiece))
        self.assertIs(within(WEB, apiece, together), True)

    def test_every_two_kinds(self):
        for one in all_kinds():
            for other in all_kinds():
                told = apart(WEB, one, other)
                held = within(WEB, one, other)
                self.assertIs(held, told == [])
                if held:
                    self.assertTrue(all(of for mark, of in zip(marks(one), marks(other)) if mark), (one, other))
                else:
                    self.check_shown(one, other, told)

    def test_within_both_ways_is_equal(self):
        for one in all_kinds():
            for other in all_kinds():
                self.assertEqual(within(WEB, one, other) and within(WEB, other, one), one == other)


class JoinedAndMet(TestOfKinds):

    def test_plain(self):
        cat, dog, wild = [formed(WEB, [name], [], []) for name in ("cat", "dog", "wild")]
        self.assertEqual(joined(WEB, cat, dog), (False, ("cat", "dog"), (), ()))
        self.assertEqual(joined(WEB, cat, wild), wild)
        self.assertEqual(met(WEB, cat, wild), cat)
        self.assertEqual(met(WEB, formed(WEB, ["pet"], [], []), wild), cat)
        self.assertEqual(met(WEB, dog, wild), NONE)

    def test_of_lists(self):
        pets_and_small = formed(WEB, [], [], [rough(["pet"]), rough(spans=[span(0, 3)])])
        wild_or_great = formed(WEB, [], [], [rough(["wild"], [span(2, 9)])])
        self.assertEqual(met(WEB, pets_and_small, wild_or_great),
                         (False, (), (), ((False, (), (span(2, 3),), ()), (False, ("cat",), (), ()))))
        dogs, stones = formed(WEB, [], [], [rough(["dog"])]), formed(WEB, [], [], [rough(["stone"])])
        self.assertEqual(met(WEB, dogs, stones), (False, (), (), (NONE,)))
        self.assertEqual(joined(WEB, dogs, stones), (False, (), (), (rough(["dog"]), rough(["stone"]))))

    def test_any_and_none(self):
        for kind in all_kinds():
            for one, other in ((kind, ANY), (ANY, kind)):
                self.assertEqual((joined(WEB, one, other), met(WEB, one, other)), (ANY, kind))
            for one, other in ((kind, NONE), (NONE, kind)):
                self.assertEqual((joined(WEB, one, other), met(WEB, one, other)), (kind, NONE))

    def test_every_two_kinds(self):
        checked = set()
        for at, one in enumerate(all_kinds()):
            for other in all_kinds()[at:]:
                both, some = met(WEB, one, other), joined(WEB, one, other)
                self.assertEqual((met(WEB, other, one), joined(WEB, other, one)), (both, some))
                for kind in {both, some} - checked:
                    self.check_form(kind)
                    checked.add(kind)
                pairs = list(zip(marks(one), marks(other)))
                self.assertEqual(marks(both), tuple(one and other for one, other in pairs), (one, other))
                self.assertEqual(marks(some), tuple(one or other for one, other in pairs), (one, other))

    def test_they_are_the_bounds(self):
        source = random.Random(4)
        for one in all_kinds():
            for other in source.sample(all_kinds(), 8):
                both, some = met(WEB, one, other), joined(WEB, one, other)
                for kind in (one, other):
                    self.assertTrue(within(WEB, both, kind) and within(WEB, kind, some))
                for kind in source.sample(all_kinds(), 8):
                    self.assertEqual(within(WEB, kind, both), within(WEB, kind, one) and within(WEB, kind, other))
                    self.assertEqual(within(WEB, some, kind), within(WEB, one, kind) and within(WEB, other, kind))


class Kept(TestOfKinds):

    def test_what_is_handed_in_stays_as_it_was(self):
        names, spans = ["lynx", "dog", "cat", "dog"], [span(5, 9), span(3, 1), span(1, 4)]
        inners = [(False, ["dog", "cat"], [span(2, 1)], [NONE, ANY]), ANY, NONE]
        formed(WEB, names, spans, inners)
        self.assertEqual(names, ["lynx", "dog", "cat", "dog"])
        self.assertEqual(spans, [span(5, 9), span(3, 1), span(1, 4)])
        self.assertEqual(inners, [(False, ["dog", "cat"], [span(2, 1)], [NONE, ANY]), ANY, NONE])

    def test_changed_afterwards_it_has_no_bearing(self):
        names, spans, inners = ["dog"], [span(5, 9)], [(False, ["dog", "cat"], [span(1, 2)], [NONE])]
        told = formed(WEB, names, spans, inners)
        names.append("stone")
        spans.clear()
        inners[0][1].pop()
        inners[0][3].clear()
        inners.append(ANY)
        self.assertEqual(told, (False, ("dog",), (span(5, 9),), ((False, ("cat", "dog"), (span(1, 2),), (NONE,)),)))

    def test_what_is_told_may_be_changed(self):
        lists, dogs = formed(WEB, [], [], [rough(["pet"])]), formed(WEB, [], [], [rough(["dog"])])
        deep = formed(WEB, [], [], [lists]), formed(WEB, [], [], [dogs])
        for one, other in ((lists, dogs), (dogs, lists), (ANY, dogs), (NONE, NONE), (lists, NONE), deep):
            told = apart(WEB, one, other)
            kept = repr(told)
            for thing in told:
                if isinstance(thing, list):
                    thing.append([7])
            told.append(5)
            self.assertEqual(repr(apart(WEB, one, other)), kept)

    def test_webs_of_the_same_names_asked_by_turns(self):
        up, down, flat = [Web(tuples) for tuples in (
            [("a", ["b"]), ("b", [])], [("a", []), ("b", ["a"])], [("a", []), ("b", [])])]
        one, other = rough(["a"]), rough(["b"])
        for _ in range(2):
            for web, tops, both, ways in ((up, ("b",), ("a",), (True, False)), (down, ("a",), ("b",), (False, True)),
                                          (flat, ("a", "b"), (), (False, False))):
                self.assertEqual(formed(web, ["a", "b"], [], []), (False, tops, (), ()))
                self.assertEqual(formed(web, [], [], [one, other])[3], tuple(rough([top]) for top in tops))
                self.assertEqual(joined(web, one, other), (False, tops, (), ()))
                self.assertEqual(met(web, one, other), (False, both, (), ()))
                self.assertEqual((within(web, one, other), within(web, other, one)), ways)
                self.assertEqual((apart(web, one, other), apart(web, other, one)),
                                 ([] if ways[0] else ["a"], [] if ways[1] else ["b"]))


if __name__ == "__main__":
    unittest.main()
