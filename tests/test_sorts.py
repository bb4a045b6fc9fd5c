"""sorts: [21], and [2] of sorts."""

import copy
import itertools
import random
import unittest

from fitmost.kinds import formed
from fitmost.sorts import marks, sorts
from fitmost.webs import Web
from samples import (ANY, BODY_KINDS, NONE, PETS, kind, pets, plain_is_of, plain_sorts, rough, rough_kinds,
                     sample_things, span)

WEB = pets()


def kinds_of(*texts):
    return [kind(text) for text in texts]


def all_but(*numbers):
    """The kind of all numbers but some."""
    ends = [None, *sorted(numbers), None]
    return formed(WEB, [], [span(None if low is None else low + 1, None if high is None else high - 1)
                            for low, high in zip(ends, ends[1:])], [])


def lists_of(*inners):
    return formed(WEB, [], [], inners)


class Marks(unittest.TestCase):

    def check(self, thing, texts, wanted):
        kinds = kinds_of(*texts)
        for told in (kinds, tuple(kinds)):
            answer = marks(WEB, thing, told)
            self.assertEqual(answer, tuple(wanted))
            self.assertEqual([type(mark) for mark in answer], [int] * len(wanted))

    def test_plain(self):
        texts = ("any", "none", "pet", "..", "1..9", "[any]", "[cat]|[1]")
        self.check(5, texts, [1, 0, 0, 1, 1, 0, 0])
        self.check(-5, texts, [1, 0, 0, 1, 0, 0, 0])
        self.check("lynx", texts, [1, 0, 1, 0, 0, 0, 0])
        self.check("stone", texts, [1, 0, 0, 0, 0, 0, 0])
        self.check(None, texts, [1, 0, 0, 0, 0, 0, 0])
        self.check([], texts, [1, 0, 0, 0, 0, 1, 1])
        self.check(["cat", 1], texts, [1, 0, 0, 0, 0, 1, 0])
        self.check(["lynx"], texts, [1, 0, 0, 0, 0, 1, 1])

    def test_of_no_kinds(self):
        for thing in (0, "cat", None, [], [[1]]):
            self.check(thing, [], [])

    def test_by_the_words(self):
        kinds = [ANY] + [formed(WEB, *told[1:]) for told in rough_kinds() if not told[0]]
        for thing in sample_things()[::3]:
            self.assertEqual(marks(WEB, thing, kinds), tuple(int(plain_is_of(PETS, thing, told)) for told in kinds))


class Sorts(unittest.TestCase):

    def check(self, kinds, many=None):
        """That the sorts of some kinds are such, and all."""
        told = sorts(WEB, kinds)
        self.assertIs(type(told), list)
        for row in told:
            self.assertIs(type(row), tuple)
            self.assertEqual(len(row), 2)
            self.assertEqual(row[0], tuple(int(plain_is_of(PETS, row[1], one)) for one in kinds), kinds)
            self.assertEqual([type(mark) for mark in row[0]], [int] * len(kinds))
        self.assertEqual([row[0] for row in told], [row[0] for row in plain_sorts(WEB, kinds)], kinds)
        self.assertEqual(sorts(WEB, tuple(kinds)), told)
        if many is not None:
            self.assertEqual(len(told), many)
        return told

    def test_of_no_kinds(self):
        self.check([], 1)
        self.assertEqual(sorts(WEB, [])[0][0], ())

    def test_any_and_none(self):
        self.check([ANY], 1)
        self.check([NONE], 1)
        self.check([ANY, NONE, ANY], 1)
        self.check(kinds_of("any", "..", "none"), 2)

    def test_one_kind(self):
        for text in BODY_KINDS:
            self.check([kind(text)], 2)

    def test_kinds_within_one_another_or_overlapping(self):
        self.check(kinds_of("cat", "pet"), 3)
        self.check(kinds_of("pet", "wild"), 4)
        self.check(kinds_of("dog", "wild"), 3)
        self.check(kinds_of("1..9", "3..5"), 3)
        self.check(kinds_of("1..5", "3..9"), 4)
        self.check(kinds_of("pet", "wild", "cat", "lynx", "dog"), 6)
        self.check(kinds_of("cat|1..5", "3..9|dog"), 4)

    def test_kinds_alike_told_twice(self):
        self.check(kinds_of("cat", "cat"), 2)
        self.check(kinds_of("[cat]|[dog]", "[1]", "[cat]|[dog]"), 4)

    def test_spans_without_an_end(self):
        self.check(kinds_of(".."), 2)
        self.check(kinds_of("..0", "1.."), 3)
        self.check(kinds_of("..0", "0.."), 4)
        self.check(kinds_of("..", "..0", "5.."), 4)
        self.check(kinds_of("..-3|9..", "..7"), 4)
        self.check(kinds_of("..4", "..9", "..14"), 4)
        self.check(kinds_of("4..", "9..", "14.."), 4)

    def test_numbers_one_beside_another(self):
        self.check(kinds_of("1", "2", "3"), 4)
        self.check(kinds_of("..1|3..", "2"), 3)
        self.check(kinds_of("..1|3..", ".."), 3)
        self.check([all_but(2), kind("..")], 3)
        self.check(kinds_of("7..9", "8"), 3)
        self.check(kinds_of("7..8", "8..9"), 4)
        self.check([rough(spans=[span(10 ** 60 - 1)]), rough(spans=[span(None, 10 ** 60 - 1)])], 4)

    def test_names_alone(self):
        self.check([rough([name]) for name in WEB.names()])
        every = formed(WEB, WEB.names(), [span()], [ANY])
        self.check([every], 2)
        self.check([every, ANY], 2)

    def test_lists_without_things(self):
        self.check(kinds_of("[none]"), 2)
        self.check(kinds_of("[cat]", "[dog]"), 4)
        self.check(kinds_of("[none]", "[cat]", "[dog]"), 4)
        self.check(kinds_of("[[none]]", "[none]"), 3)
        self.check(kinds_of("[[none]]", "[[cat]]", "[[[none]]]"), 4)
        self.assertIn(((1, 1, 1), []), sorts(WEB, kinds_of("[none]", "[cat]", "[dog]")))

    def test_lists_told_apart_by_several_things_at_once(self):
        self.check(kinds_of("[cat|dog]", "[cat]|[dog]"), 3)
        self.check(kinds_of("[1|2|3]", "[1|2]|[2|3]|[1|3]", "[1]|[2]|[3]"), 4)
        self.check(kinds_of("[..]", "[..5]", "[3..]", "[4]"), 6)
        self.check(kinds_of("[[cat|dog]]", "[[cat]|[dog]]", "[[cat]]|[[dog]]"))
        self.check(kinds_of("[[[1|2]|[2|3]]]", "[[[1|2]]|[[2|3]]]", "[[[1|2]]]|[[[2|3]]]", "[[[2]]]"))

    def test_six_inners(self):
        inners = [all_but(number) for number in range(6)]
        self.check([lists_of(*inners), kind("[..]")], 3)
        self.check([lists_of(inner) for inner in inners], 64)
        self.check([lists_of(*inners[at:at + 3]) for at in range(0, 6, 3)], 4)
        self.check([lists_of(*pair) for pair in itertools.combinations(inners[:4], 2)])
        deep = [lists_of(inners[at], inners[(at + 1) % 6], inners[(at + 3) % 6]) for at in range(6)]
        self.check([lists_of(*deep), lists_of(*deep[:3]), lists_of(*deep[3:]), lists_of(deep[0], deep[3])])
        self.check([lists_of(inner) for inner in deep[:5]])

    def test_three_levels(self):
        inners = [all_but(number) for number in range(3)]
        middle = [lists_of(*pair) for pair in itertools.combinations(inners, 2)]
        outer = [lists_of(*pair) for pair in itertools.combinations(middle, 2)]
        self.check([lists_of(one) for one in outer])
        self.check([lists_of(*pair) for pair in itertools.combinations(outer, 2)] + [lists_of(*outer)])
        self.check(kinds_of("[any]", "[[any]]", "[[[any]]]", "[[[none]]]", "[[none]]", "[none]", "any"))

    def test_any_beside_inners(self):
        self.check(kinds_of("any", "[cat]", "[dog]", "none"), 4)
        self.check(kinds_of("[any]", "[cat]"), 3)
        self.check(kinds_of("[any]", "[pet|..]", "[[any]]"))

    def test_eight_kinds(self):
        self.check([rough(spans=[span(at, at + 8)]) for at in range(8)], 16)
        source = random.Random(21)
        for _ in range(20):
            self.check(kinds_of(*source.sample(BODY_KINDS, 8)))
        self.check([lists_of(all_but(number)) for number in range(8)], 256)

    def test_more_inners_than_six(self):
        self.check([lists_of(all_but(2 * number), all_but(2 * number + 1)) for number in range(4)], 16)
        inners = [all_but(number) for number in range(64)]
        deep = [lists_of(inner) for inner in inners]
        for kinds in ([lists_of(*inners[at:at + 8]) for at in range(0, 64, 8)],
                      [lists_of(*deep[at:at + 2]) for at in range(0, 16, 2)]):
            told = sorts(WEB, kinds)
            self.assertEqual([row[0] for row in told], list(itertools.product((0, 1), repeat=8)))
            for wanted, thing in told[::7]:
                self.assertEqual(wanted, tuple(int(plain_is_of(PETS, thing, one)) for one in kinds))

    def test_some_kinds(self):
        source = random.Random(22)
        pool = [formed(WEB, *told[1:]) for told in rough_kinds() if not told[0]]
        for _ in range(60):
            kinds = source.sample(pool, source.randint(1, 3))
            told = self.check(kinds)
            known = [row[0] for row in told]
            for thing in sample_things()[::5]:
                self.assertIn(marks(WEB, thing, kinds), known)

    def test_other_webs(self):
        self.assertEqual([row[0] for row in sorts(Web([]), [kind("[..]"), kind("1")])], [(0, 0), (0, 1), (1, 0)])


class Kept(unittest.TestCase):

    def test_what_is_handed_in_stays_as_it_was(self):
        kinds, thing = kinds_of("[cat]|[dog]", "cat"), ["cat", ["dog"]]
        kept = copy.deepcopy((kinds, thing))
        sorts(WEB, kinds)
        marks(WEB, thing, kinds)
        self.assertEqual((kinds, thing), kept)

    def test_what_is_told_may_be_changed(self):
        kinds = kinds_of("[[cat]|[dog]]", "[[cat|dog]]", "[[1]|[cat]]", "[any]", "[[cat]]")
        kept = repr(sorts(WEB, kinds))

        def spoil(thing):
            if isinstance(thing, list):
                for part in list(thing):
                    spoil(part)
                thing.append(5)

        told = sorts(WEB, kinds)
        for at, (ours, thing) in enumerate(told):
            others = repr(told[:at]), repr(told[at + 1:])
            spoil(thing)
            self.assertEqual((repr(told[:at]), repr(told[at + 1:])), others)
        told.clear()
        self.assertEqual(repr(sorts(WEB, kinds)), kept)

    def test_webs_of_the_same_names_asked_by_turns(self):
        up, down, flat = [Web(tuples) for tuples in (
            [("x", ["y"]), ("y", [])], [("x", []), ("y", ["x"])], [("x", []), ("y", [])])]
        kinds = [rough(["x"]), rough(["y"])]
        for _ in range(2):
            self.assertEqual([[row[0] for row in sorts(web, kinds)] for web in (up, down, flat)], [
                [(0, 0), (0, 1), (1, 1)], [(0, 0), (1, 0), (1, 1)], [(0, 0), (0, 1), (1, 0)]])
            self.assertEqual([marks(web, "x", kinds) for web in (up, down, flat)], [(1, 1), (1, 0), (1, 0)])


if __name__ == "__main__":
    unittest.main()
