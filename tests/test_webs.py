"""webs: [6], [7], and [2] of webs."""

import itertools
import random
import unittest

from fitmost.errors import NoKind, NoName, Ring, Taken
from fitmost.webs import Web
from samples import PETS, letters, pets, plain_beneath, plain_tops, random_webs

NO_NAMES = ("", "Cat", "c4t", "cat ", "\ncat", "a-b", "any", "none", "blank", "new", "on", "abcdefghi",
            5, True, None, [], ["cat"], ("cat",), {})


class Made(unittest.TestCase):

    def test_no_kinds(self):
        for tuples in ([], ()):
            self.assertEqual(Web(tuples).names(), [])

    def test_one_kind(self):
        web = Web([("cat", [])])
        self.assertEqual((web.names(), web.over("cat")), (["cat"], []))

    def test_twenty_four_kinds(self):
        names = [letters(number) for number in range(24)]
        web = Web([(name, names[:at]) for at, name in enumerate(names)])
        self.assertEqual(web.names(), names)
        for at, name in enumerate(names):
            self.assertEqual(web.over(name), names[:at])
        self.assertTrue(web.beneath(names[23], names[0]))

    def test_names_as_told_and_over_in_order_each_once(self):
        web = pets()
        self.assertEqual(web.names(), ["pet", "cat", "dog", "wild", "lynx", "stone"])
        told = [web.over(name) for name in web.names()]
        self.assertEqual(told, [[], ["pet", "wild"], ["pet"], [], ["cat", "wild"], []])

    def test_any_order_of_the_tuples(self):
        for tuples in itertools.permutations(PETS):
            web = Web(tuples)
            self.assertEqual(web.names(), [name for name, over in tuples])
            self.assertEqual(web.over("lynx"), ["cat", "wild"])
            self.assertTrue(web.beneath("lynx", "pet"))

    def test_any_order_of_the_kinds_over_one(self):
        low = [("a", []), ("b", []), ("c", [])]
        for over in itertools.product("abc", repeat=4):
            self.assertEqual(Web(low + [("d", list(over))]).over("d"), sorted(set(over)))

    def test_lists_and_tuples_alike(self):
        tuples = [(name, tuple(over)) for name, over in PETS]
        for told in (tuples, tuple(tuples), tuple(PETS), [(name, list(over)) for name, over in PETS]):
            web = Web(told)
            self.assertEqual([web.over(name) for name in web.names()], [pets().over(name) for name in web.names()])


class Refused(unittest.TestCase):

    def test_no_name_among_the_names(self):
        for word in NO_NAMES:
            for tuples in ([(word, [])], [("cat", []), (word, ["cat"])], [(word, []), ("cat", [])]):
                with self.subTest(repr(tuples)), self.assertRaises(NoName):
                    Web(tuples)

    def test_no_name_in_the_lists(self):
        for word in NO_NAMES:
            for over in ([word], ["cat", word], [word, "cat"], (word,)):
                with self.subTest(repr(over)), self.assertRaises(NoName):
                    Web([("cat", []), ("dog", over)])

    def test_taken(self):
        for tuples in ([("cat", []), ("cat", [])],
                       [("cat", []), ("dog", []), ("cat", ["dog"])],
                       [("dog", []), ("cat", ["dog"]), ("pet", []), ("cat", ["dog"])]):
            with self.subTest(tuples), self.assertRaises(Taken):
                Web(tuples)

    def test_no_kind(self):
        for tuples in ([("cat", ["pet"])], [("cat", []), ("dog", ["cat", "pet"])], [("cat", ["pet", "pet"])]):
            with self.subTest(tuples), self.assertRaises(NoKind):
                Web(tuples)

    def test_the_one_due_first_wherever_it_stands(self):
        parts = [
            (NoName, [[("Bad", [])], [("good", ["any"])], [(7, [])], [("good", [None])]]),
            (Taken, [[("cat", []), ("cat", [])]]),
            (NoKind, [[("dog", ["ghost"])]]),
            (Ring, [[("hen", ["egg"]), ("egg", ["hen"])], [("self", ["self"])]]),
        ]
        for many in range(1, 5):
            for chosen in itertools.combinations(parts, many):
                for rows in itertools.product(*[choices for error, choices in chosen]):
                    for tuples in itertools.permutations(sum(rows, [])):
                        with self.assertRaises(chosen[0][0]):
                            Web(list(tuples))

    def test_several_in_one_tuple(self):
        self.assertRaises(NoName, Web, [("any", []), ("any", [])])
        self.assertRaises(NoName, Web, [("any", ["any"])])
        self.assertRaises(NoName, Web, [("cat", ["ghost", "cat", "Bad"])])
        self.assertRaises(Taken, Web, [("cat", ["cat"]), ("cat", ["cat"])])
        self.assertRaises(Taken, Web, [("cat", ["ghost"]), ("cat", [])])
        self.assertRaises(NoKind, Web, [("cat", ["cat", "ghost"])])


class Rings(unittest.TestCase):

    def check(self, tuples):
        with self.assertRaises(Ring) as caught:
            Web(tuples)
        ring = caught.exception.ring
        self.assertIs(type(ring), list)
        self.assertGreater(len(ring), 0)
        self.assertEqual(len(set(ring)), len(ring))
        for one, over_it in zip(ring, ring[1:] + ring[:1]):
            self.assertIn(over_it, dict(tuples)[one])
        return ring

    def test_of_one(self):
        self.assertEqual(self.check([("cat", ["cat"])]), ["cat"])

    def test_of_two(self):
        self.assertEqual(sorted(self.check([("cat", ["dog"]), ("dog", ["cat"])])), ["cat", "dog"])

    def test_of_many(self):
        for many in (3, 5, 24):
            names = [letters(number) for number in range(many)]
            tuples = [(name, [names[at - 1]]) for at, name in enumerate(names)]
            for told in (tuples, tuples[::-1], tuples[many // 2:] + tuples[:many // 2]):
                self.assertEqual(sorted(self.check(told)), names)

    def test_beside_kinds_that_are_in_none(self):
        # Kinds beneath the ring, kinds over it, and kinds with no bearing on it.
        tuples = [("low", ["ra"]), ("lower", ["low", "top"]), ("ra", ["top", "rb"]), ("rb", ["rc", "top"]),
                  ("rc", ["ra"]), ("top", []), ("lone", [])]
        for told in itertools.permutations(tuples):
            self.assertEqual(sorted(self.check(list(told))), ["ra", "rb", "rc"])

    def test_two_rings(self):
        self.check([("a", ["b", "c"]), ("b", ["a"]), ("c", ["a", "d"]), ("d", ["d"])])

    def test_any_web_with_a_ring_put_in(self):
        source = random.Random(5)
        for tuples in random_webs():
            pairs = [(one, other) for one, _ in tuples for other, _ in tuples
                     if plain_beneath(tuples, other, one)]
            for one, other in source.sample(pairs, min(20, len(pairs))):
                self.check([(name, list(over) + [other] * (name == one)) for name, over in tuples])


class Above(unittest.TestCase):

    def check_chain(self, web, one, other, wanted):
        chain = web.chain(one, other)
        self.assertIs(web.beneath(one, other), wanted)
        if not wanted:
            self.assertIsNone(chain)
            return
        self.assertIs(type(chain), list)
        self.assertEqual((chain[0], chain[-1]), (one, other))
        for low, high in zip(chain, chain[1:]):
            self.assertIn(high, web.over(low))

    def test_itself(self):
        self.assertEqual(pets().chain("cat", "cat"), ["cat"])
        self.assertIs(pets().beneath("cat", "cat"), True)

    def test_straight_over(self):
        self.assertEqual(pets().chain("dog", "pet"), ["dog", "pet"])

    def test_neither_beneath_the_other(self):
        for one, other in (("cat", "dog"), ("dog", "cat"), ("pet", "wild"), ("pet", "dog"), ("stone", "pet")):
            self.check_chain(pets(), one, other, False)

    def test_many_steps(self):
        names = [letters(number) for number in range(24)]
        web = Web([(name, names[at + 1:at + 2]) for at, name in enumerate(names)])
        self.assertEqual(web.chain(names[0], names[23]), names)
        self.check_chain(web, names[23], names[0], False)

    def test_several_ways(self):
        web = Web([("low", ["a", "b", "dead"]), ("a", ["top"]), ("b", ["c"]), ("c", ["top"]), ("dead", []),
                   ("top", [])])
        self.check_chain(web, "low", "top", True)
        self.check_chain(web, "low", "dead", True)
        self.check_chain(web, "dead", "top", False)

    def test_every_two_of_any_web(self):
        for tuples in random_webs():
            web = Web(tuples)
            for one in web.names():
                for other in web.names():
                    self.check_chain(web, one, other, plain_beneath(tuples, one, other))


class Tops(unittest.TestCase):

    def test_of_none_and_of_one(self):
        for names in ([], ()):
            self.assertEqual(pets().tops(names), [])
        for name in pets().names():
            self.assertEqual(pets().tops([name]), [name])

    def test_told_twice_and_in_any_order(self):
        self.assertEqual(pets().tops(["wild", "dog", "wild", "dog"]), ["dog", "wild"])
        self.assertEqual(pets().tops(("wild", "pet", "dog")), ["pet", "wild"])

    def test_beneath_one_another(self):
        self.assertEqual(pets().tops(["lynx", "cat", "wild"]), ["wild"])
        self.assertEqual(pets().tops(["lynx", "dog", "cat"]), ["cat", "dog"])
        self.assertEqual(pets().tops(pets().names()), ["pet", "stone", "wild"])

    def test_of_any_web(self):
        source = random.Random(9)
        for tuples in random_webs():
            web = Web(tuples)
            for _ in range(60):
                names = [source.choice(web.names()) for _ in range(source.randint(0, 9))] if tuples else []
                self.assertEqual(web.tops(names), plain_tops(tuples, names))


class Shared(unittest.TestCase):

    def test_nothing(self):
        for ones, others in (([], []), ([], ["pet"]), (["pet"], []), (["stone"], ["pet"]), (["dog"], ["wild"]),
                             (("stone", "dog"), ("cat", "wild"))):
            self.assertEqual(pets().shared(ones, others), [])

    def test_some(self):
        self.assertEqual(pets().shared(["pet"], ["wild"]), ["cat"])
        self.assertEqual(pets().shared(["pet"], ["pet"]), ["pet"])
        self.assertEqual(pets().shared(("pet", "pet"), ("dog", "lynx", "dog")), ["dog", "lynx"])
        self.assertEqual(pets().shared(["cat"], ["wild", "dog"]), ["cat"])

    def test_of_any_web(self):
        source = random.Random(10)
        for tuples in random_webs():
            web = Web(tuples)
            for _ in range(60 if tuples else 1):
                ones, others = [
                    [source.choice(web.names()) for _ in range(source.randint(0, 4))] if tuples else []
                    for _ in range(2)
                ]
                both = [
                    name for name in web.names()
                    if any(plain_beneath(tuples, name, one) for one in ones)
                    and any(plain_beneath(tuples, name, other) for other in others)
                ]
                self.assertEqual(web.shared(ones, others), plain_tops(tuples, both))


class Kept(unittest.TestCase):

    def everything(self, web):
        names = ["cat", "dog", "lynx"]
        return (web.names(), [web.over(name) for name in web.names()], web.chain("lynx", "pet"),
                web.tops(names), web.shared(["pet"], ["wild", "dog"]), web.beneath("lynx", "pet"))

    def test_what_is_handed_in_stays_as_it_was(self):
        tuples = [("lynx", ["wild", "cat", "wild"]), ("cat", ["pet"]), ("pet", []), ("wild", [])]
        names, others = ["wild", "lynx", "cat", "wild"], ["pet", "cat", "cat"]
        web = Web(tuples)
        web.tops(names)
        web.shared(names, others)
        self.assertEqual(tuples, [("lynx", ["wild", "cat", "wild"]), ("cat", ["pet"]), ("pet", []), ("wild", [])])
        self.assertEqual((names, others), (["wild", "lynx", "cat", "wild"], ["pet", "cat", "cat"]))

    def test_changed_afterwards_it_has_no_bearing(self):
        tuples = [(name, list(over)) for name, over in PETS]
        web = Web(tuples)
        told = self.everything(web)
        for name, over in tuples:
            over.append("stone")
        tuples.reverse()
        tuples.pop()
        self.assertEqual(self.everything(web), told)
        self.assertEqual(self.everything(web), self.everything(pets()))

    def test_what_is_told_may_be_changed(self):
        web = pets()
        lists = [web.names(), web.over("lynx"), web.over("pet"), web.chain("lynx", "pet"), web.chain("cat", "cat"),
                 web.tops(["cat"]), web.tops([]), web.shared(["pet"], ["wild"])]
        for told in lists:
            told.append("ghost")
            told.reverse()
        self.assertEqual(self.everything(web), self.everything(pets()))
        self.assertEqual(web.chain("cat", "cat"), ["cat"])
        self.assertEqual((web.tops(["cat"]), web.tops([]), web.over("pet")), (["cat"], [], []))

    def test_no_later_call_changes_what_was_told(self):
        web = pets()
        told = self.everything(web)
        self.everything(web)
        Web([("cat", [])])
        self.assertEqual(told, self.everything(pets()))

    def test_names_handed_in_are_not_told_back(self):
        names = ["cat"]
        told = pets().tops(names)
        told.append("dog")
        self.assertEqual(names, ["cat"])

    def test_the_ring_of_a_refusal_may_be_changed(self):
        tuples = [("a", ["b"]), ("b", ["a"])]
        rings = []
        for _ in range(2):
            with self.assertRaises(Ring) as caught:
                Web(tuples)
            rings.append(list(caught.exception.ring))
            caught.exception.ring.append("ghost")
        self.assertEqual(rings[0], rings[1])
        self.assertEqual(tuples, [("a", ["b"]), ("b", ["a"])])

    def test_a_refused_web_has_no_bearing_on_another(self):
        for tuples in ([("cat", ["cat"])], [("cat", ["ghost"])], [("cat", []), ("cat", [])], [("Cat", [])]):
            try:
                Web(tuples)
            except (NoName, Taken, NoKind, Ring):
                pass
        self.assertEqual(self.everything(pets()), self.everything(Web(PETS)))

    def test_webs_of_the_same_names(self):
        up, down = Web([("a", ["b"]), ("b", [])]), Web([("a", []), ("b", ["a"])])
        for _ in range(2):
            self.assertEqual((up.beneath("a", "b"), up.beneath("b", "a")), (True, False))
            self.assertEqual((down.beneath("a", "b"), down.beneath("b", "a")), (False, True))
            self.assertEqual((up.tops(["a", "b"]), down.tops(["a", "b"])), (["b"], ["a"]))


if __name__ == "__main__":
    unittest.main()
