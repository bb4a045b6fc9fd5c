"""tables: [24], [25], and [2] of tables."""

import copy
import itertools
import random
import unittest

from fitmost.errors import TooMany
from fitmost.quarrels import looks
from fitmost.tables import answer, parted, sign, table, told_by
from fitmost.webs import Web
from samples import (ANY, PETS, kind, pets, plain_answer, plain_calls, plain_is_of, rough, sample_things, some_bodies,
                     told_bodies)

WEB = pets()


def plain_sign(bodies, place, thing):
    """The sign of a thing at a place, by the words alone."""
    return tuple(sorted(name for name, row in bodies if plain_is_of(PETS, thing, row[place])))


def answers_by_signs(bodies):
    """The answers of calls by all signs that they have, by the words alone."""
    told = {}
    for call in plain_calls(WEB, bodies, [ANY] * len(bodies[0][1])):
        signs = tuple(plain_sign(bodies, place, thing) for place, thing in enumerate(call))
        assert told.setdefault(signs, plain_answer(bodies, call)) == plain_answer(bodies, call)
    return told


def alike(told, place, one, other):
    """Whether two signs are alike at a place, by the words alone."""
    return all(
        told[signs] == told[signs[:place] + (other,) + signs[place + 1:]] for signs in told if signs[place] == one)


def plain_table(bodies):
    """The table of bodies, by the words alone."""
    told = answers_by_signs(bodies)
    groups = []
    for place in range(len(bodies[0][1])):
        signs = sorted({signs[place] for signs in told})
        some = {tuple(other for other in signs if alike(told, place, one, other)) for one in signs}
        groups.append(sorted(list(group) for group in some))
    answers = []
    for numbers in itertools.product(*[range(len(some)) for some in groups]):
        found = {told[signs] for signs in told
                 if all(one in some[number] for one, some, number in zip(signs, groups, numbers))}
        assert len(found) == 1
        answers.append((numbers, found.pop()))
    return (groups, answers)


class SignAndAnswer(unittest.TestCase):

    def test_signs(self):
        rows = {"c": ("pet", "1..9"), "a": ("cat", "any"), "b": ("any", "none")}
        bodies = [(name, tuple(kind(text) for text in row)) for name, row in rows.items()]
        for told in (bodies, tuple(bodies), [(name, list(row)) for name, row in bodies]):
            for place, thing, wanted in ((0, "lynx", "abc"), (0, "dog", "bc"), (0, None, "b"), (0, [], "b"),
                                         (1, 1, "ac"), (1, 0, "a"), (1, "cat", "a")):
                self.assertEqual(sign(WEB, told, place, thing), tuple(wanted))
        self.assertEqual(sign(WEB, told_bodies("cat", "1"), 0, None), ())

    def test_answers(self):
        bodies = told_bodies("pet, any", "any, 1..9", "dog, 1..9")
        for told in (bodies, tuple(bodies), [(name, list(row)) for name, row in bodies]):
            for call, wanted in ((["cat", 0], ("one", "a")), ([0, 1], ("one", "b")), (["dog", 9], ("one", "c")),
                                 (["cat", 1], ("quarrel",)), ([0, 0], ("none",)), (["stone", None], ("none",))):
                self.assertEqual(answer(WEB, told, call), wanted)
                self.assertEqual(answer(WEB, told, tuple(call)), wanted)

    def test_by_the_words(self):
        source = random.Random(24)
        things = sample_things()
        for number in range(100):
            bodies = some_bodies(number)
            for _ in range(5):
                call = [source.choice(things) for _ in bodies[0][1]]
                self.assertEqual(answer(WEB, bodies, call), plain_answer(bodies, call))
                for place, thing in enumerate(call):
                    told = sign(WEB, bodies, place, thing)
                    self.assertEqual(told, plain_sign(bodies, place, thing))
                    self.assertIs(type(told), tuple)


class Table(unittest.TestCase):

    def check_form(self, told):
        """That a table is made of tuples and lists, as told."""
        self.assertIs(type(told), tuple)
        groups, answers = told
        self.assertEqual((type(groups), type(answers)), (list, list))
        for some in groups:
            self.assertIs(type(some), list)
            for group in some:
                self.assertIs(type(group), list)
                self.assertEqual({type(one) for one in group}, {tuple})
        for row in answers:
            self.assertEqual([type(part) for part in row], [tuple, tuple])

    def test_one_body(self):
        for row in ("cat", "[..]"):
            self.assertEqual(table(WEB, told_bodies(row)), (
                [[[()], [("a",)]]], [((0,), ("none",)), ((1,), ("one", "a"))]))
        self.assertEqual(table(WEB, told_bodies("any")), ([[[("a",)]]], [((0,), ("one", "a"))]))
        self.assertEqual(table(WEB, told_bodies("none")), ([[[()]]], [((0,), ("none",))]))
        self.assertEqual(table(WEB, told_bodies("cat, any, none")), (
            [[[(), ("a",)]], [[("a",)]], [[()]]], [((0, 0, 0), ("none",))]))

    def test_two_bodies(self):
        self.assertEqual(table(WEB, told_bodies("pet", "wild")), (
            [[[()], [("a",)], [("a", "b")], [("b",)]]],
            [((0,), ("none",)), ((1,), ("one", "a")), ((2,), ("quarrel",)), ((3,), ("one", "b"))]))
        self.assertEqual(table(WEB, told_bodies("pet", "any")), (
            [[[("a", "b")], [("b",)]]], [((0,), ("one", "a")), ((1,), ("one", "b"))]))

    def test_alike_signs_are_together(self):
        # Whether the thing at place 0 is of c's kind has no bearing: c never fits.
        bodies = told_bodies("cat, 1..9", "any, 1..9", "dog, none")
        self.assertEqual(table(WEB, bodies), (
            [[[("a", "b")], [("b",), ("b", "c")]], [[()], [("a", "b")]]],
            [((0, 0), ("none",)), ((0, 1), ("one", "a")), ((1, 0), ("none",)), ((1, 1), ("one", "b"))]))
        bodies = told_bodies("pet, any", "any, wild", "dog, any", "any, stone")
        self.assertEqual(table(WEB, bodies), plain_table(bodies))
        self.assertEqual(table(WEB, told_bodies("cat", "pet", "lynx"))[0], [
            [[()], [("a", "b")], [("a", "b", "c")], [("b",)]]])
        groups = table(WEB, told_bodies("1..2", "2..3", "3..4|1", "1..4"))[0]
        self.assertEqual(groups, [[[()], [("a", "b", "d"), ("a", "c", "d"), ("b", "c", "d")], [("c", "d")]]])

    def test_by_the_words(self):
        sizes = set()
        for number in range(150):
            bodies = some_bodies(number)
            told = table(WEB, bodies)
            self.assertEqual(told, plain_table(bodies), bodies)
            self.check_form(told)
            sizes.add((len(bodies), len(bodies[0][1])))
        self.assertEqual({many for many, places in sizes}, {1, 2, 3, 4, 5, 6, 7, 8})
        self.assertEqual({places for many, places in sizes}, {1, 2, 3})

    def test_bodies_in_any_other_order(self):
        source = random.Random(25)
        for number in range(60):
            bodies = some_bodies(number)
            told = table(WEB, bodies)
            other = source.sample(bodies, len(bodies))
            self.assertEqual(table(WEB, tuple((name, list(row)) for name, row in other)), told)

    def test_too_many_looks(self):
        six = told_bodies("1", "2", "3", "4", "5", "6", "any", "none")
        self.assertEqual(len(table(WEB, six)[1]), 7)
        for seven in (told_bodies("1", "2", "3", "4", "5", "6", "7"), told_bodies("1, 1, 1", "2, 2, 2", "any, 3, any")):
            self.assertEqual(len(looks(seven)), 7)
            with self.assertRaises(TooMany) as caught:
                table(WEB, seven)
            self.assertIs(type(caught.exception), TooMany)


class ByTheTable(unittest.TestCase):

    def test_told_by(self):
        source = random.Random(26)
        things = sample_things()
        for number in range(100):
            bodies = some_bodies(number)
            some = table(WEB, bodies)
            calls = plain_calls(WEB, bodies, [ANY] * len(bodies[0][1]))[::3]
            calls += [[source.choice(things) for _ in bodies[0][1]] for _ in range(10)]
            for call in calls:
                self.assertEqual(told_by(WEB, bodies, some, call), plain_answer(bodies, call), (bodies, call))
                self.assertEqual(told_by(WEB, tuple(bodies), some, tuple(call)), plain_answer(bodies, call))

    def test_told_by_the_table_alone(self):
        bodies = told_bodies("cat", "dog")
        groups, answers = table(WEB, bodies)
        turned = [(numbers, ("one", "b" if told == ("one", "a") else "a")) for numbers, told in answers]
        self.assertEqual(told_by(WEB, bodies, (groups, turned), ["cat"]), ("one", "b"))

    def test_told_by_a_table_of_tuples(self):
        bodies = told_bodies("pet, any", "any, wild")
        groups, answers = table(WEB, bodies)
        some = (tuple(tuple(tuple(group) for group in told) for told in groups), tuple(answers))
        self.assertEqual(told_by(WEB, bodies, some, ["cat", "cat"]), ("quarrel",))
        self.assertEqual(told_by(WEB, bodies, some, ["cat", 0]), ("one", "a"))
        self.assertEqual(parted(some, 0, 0, 1), parted((groups, answers), 0, 0, 1))

    def test_parted(self):
        many = 0
        for number in range(150):
            some = table(WEB, some_bodies(number))
            groups, answers = some
            told = dict(answers)
            for place, there in enumerate(groups):
                for one, other in itertools.product(range(len(there)), repeat=2):
                    numbers = parted(some, place, one, other)
                    if one == other:
                        self.assertIsNone(numbers)
                        continue
                    self.assertIs(type(numbers), tuple)
                    self.assertEqual(numbers[place], one)
                    swapped = numbers[:place] + (other,) + numbers[place + 1:]
                    self.assertNotEqual(told[numbers], told[swapped])
                    many += 1
        self.assertGreater(many, 500)

    def test_parted_plainly(self):
        some = table(WEB, told_bodies("pet", "wild"))
        self.assertEqual(parted(some, 0, 2, 1), (2,))
        self.assertEqual(parted(some, 0, 1, 2), (1,))
        self.assertIsNone(parted(some, 0, 3, 3))


class Kept(unittest.TestCase):

    def test_what_is_handed_in_stays_as_it_was(self):
        bodies = [("b", [kind("[pet]"), ANY]), ("a", [ANY, kind("cat")])]
        call = [["cat"], "cat"]
        some = table(WEB, bodies)
        kept = copy.deepcopy((bodies, call, some))
        sign(WEB, bodies, 0, call[0])
        answer(WEB, bodies, call)
        table(WEB, bodies)
        told_by(WEB, bodies, some, call)
        parted(some, 0, 0, 1)
        self.assertEqual((bodies, call, some), kept)

    def test_what_is_told_may_be_changed(self):
        bodies = told_bodies("pet, any", "any, wild")
        kept = repr(table(WEB, bodies))
        groups, answers = table(WEB, bodies)
        groups[0][0].append(("x",))
        groups[1].clear()
        groups.append([])
        answers.clear()
        self.assertEqual(repr(table(WEB, bodies)), kept)

    def test_no_two_lists_of_it_are_one(self):
        groups, answers = table(WEB, told_bodies("pet, pet, pet", "any, any, wild"))
        lists = [groups, answers, *groups, *[group for some in groups for group in some]]
        self.assertEqual(len({id(told) for told in lists}), len(lists))

    def test_webs_of_the_same_names_asked_by_turns(self):
        tuples = [("x", []), ("y", []), ("z", ["x", "y"])], [("x", []), ("y", ["x"]), ("z", ["y"])]
        both, chain = [Web(told) for told in tuples]
        bodies = [("b", (rough(["x"]),)), ("a", (rough(["y"]),))]
        for _ in range(2):
            self.assertEqual(table(both, bodies)[0], [[[()], [("a",)], [("a", "b")], [("b",)]]])
            self.assertEqual(table(chain, bodies)[0], [[[()], [("a", "b")], [("b",)]]])
            self.assertEqual([answer(web, bodies, ["z"]) for web in (both, chain)], [("quarrel",), ("one", "a")])
            self.assertEqual([sign(web, bodies, 0, "y") for web in (both, chain)], [("a",), ("a", "b")])

    def test_bodies_of_the_same_names_asked_by_turns(self):
        for _ in range(2):
            self.assertEqual(answer(WEB, told_bodies("cat", "pet"), ["lynx"]), ("one", "a"))
            self.assertEqual(answer(WEB, told_bodies("pet", "cat"), ["lynx"]), ("one", "b"))
            self.assertEqual(len(table(WEB, told_bodies("pet", "cat"))[1]), 3)
            self.assertEqual(len(table(WEB, told_bodies("pet", "wild"))[1]), 4)


if __name__ == "__main__":
    unittest.main()
