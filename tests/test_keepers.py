"""keepers: [33], and [2] of keepers."""

import copy
import random
import unittest

from fitmost.bodies import picked
from fitmost.errors import Alike, FitError, Held, NoBody, NoKind, NoName, NoPlaces, Taken, TooMany
from fitmost.keepers import Keeper
from fitmost.kindtexts import read_kind
from fitmost.lines import line
from fitmost.quarrels import quarrels
from fitmost.tables import table
from fitmost.webs import Web
from samples import ANY, NONE, kind, letters, rough, span

CAT = rough(["cat"])
NO_NAMES = ("", "any", "none", "blank", "new", "on", "Cat", "abcdefghi", "a b", "a1", None, 3, b"cat", (), [])


def pet_keeper():
    """A keeper of some kinds and two bodies."""
    keeper = Keeper()
    keeper.put_kind("pet", [])
    keeper.put_kind("wild", ())
    keeper.put_kind("cat", ["wild", "pet", "wild"])
    keeper.put_kind("dog", ["pet"])
    keeper.put_body("feed", (rough(["pet"]), ANY))
    keeper.put_body("flee", [ANY, rough(["wild"])])
    return keeper


def all_told(keeper):
    """All that a keeper tells of its own accord."""
    web, bodies = keeper.web(), keeper.bodies()
    told = [web.names(), [web.over(name) for name in web.names()], bodies]
    return told + ([keeper.all_quarrels(), keeper.small()] if bodies else [])


class Deeds(unittest.TestCase):

    def test_at_first(self):
        keeper = Keeper()
        self.assertEqual((keeper.web().names(), keeper.bodies()), ([], []))
        self.assertIsInstance(keeper.web(), Web)
        self.assertEqual(keeper.pick([1]), ("none", 0))
        self.assertEqual(keeper.hand_on([1]), [])

    def test_kinds_put_in(self):
        keeper = Keeper()
        self.assertIsNone(keeper.put_kind("pet", []))
        self.assertIsNone(keeper.put_kind("wild", ()))
        self.assertIsNone(keeper.put_kind("cat", ["wild", "pet", "wild"]))
        self.assertIsNone(keeper.put_kind("ant", ("cat",)))
        web = keeper.web()
        self.assertEqual(web.names(), ["pet", "wild", "cat", "ant"])
        self.assertEqual([web.over(name) for name in web.names()], [[], [], ["pet", "wild"], ["cat"]])
        self.assertTrue(web.beneath("ant", "pet"))

    def test_kinds_taken_out(self):
        keeper = pet_keeper()
        self.assertIsNone(keeper.drop_kind("dog"))
        self.assertEqual(keeper.web().names(), ["pet", "wild", "cat"])
        self.assertIsNone(keeper.drop_kind("cat"))
        keeper.put_kind("dog", ["wild"])
        keeper.put_kind("cat", [])
        self.assertEqual(keeper.web().names(), ["pet", "wild", "dog", "cat"])
        self.assertEqual((keeper.web().over("dog"), keeper.web().over("cat")), (["wild"], []))

    def test_bodies_put_in_and_taken_out(self):
        keeper = pet_keeper()
        self.assertEqual(keeper.bodies(), [("feed", (rough(["pet"]), ANY)), ("flee", (ANY, rough(["wild"])))])
        self.assertIsNone(keeper.put_body("a", [CAT, CAT]))
        self.assertEqual([name for name, row in keeper.bodies()], ["feed", "flee", "a"])
        self.assertEqual([type(row) for name, row in keeper.bodies()], [tuple] * 3)
        self.assertIsNone(keeper.drop_body("feed"))
        keeper.put_body("feed", (NONE, NONE))
        self.assertEqual([name for name, row in keeper.bodies()], ["flee", "a", "feed"])
        for name in ("a", "feed", "flee"):
            keeper.drop_body(name)
        self.assertEqual(keeper.bodies(), [])
        # The first one may have other places than those that went.
        keeper.put_body("one", (ANY,))
        self.assertEqual(keeper.bodies(), [("one", (ANY,))])

    def test_what_is_picked_and_handed_on(self):
        keeper = pet_keeper()
        self.assertEqual(keeper.pick(["cat", "dog"]), ("one", "feed"))
        self.assertEqual(keeper.pick(("cat", "cat")), ("quarrel", "feed", "flee"))
        self.assertEqual(keeper.pick([1, "dog"]), ("none", 1))
        self.assertEqual(keeper.hand_on(["cat", "cat"]), ["feed", "flee"])
        keeper.put_body("a", (CAT, CAT))
        self.assertEqual(keeper.pick(["cat", "cat"]), ("one", "a"))
        self.assertEqual(keeper.hand_on(("cat", "cat")), ["a", "feed", "flee"])
        keeper.drop_body("feed")
        self.assertEqual(keeper.hand_on(["cat", "cat"]), ["a", "flee"])
        keeper.put_kind("lynx", ["cat"])
        self.assertEqual(keeper.hand_on(["lynx", "cat"]), ["a", "flee"])

    def test_quarrels_and_the_table(self):
        keeper = pet_keeper()
        self.assertEqual(keeper.all_quarrels(), quarrels(keeper.web(), keeper.bodies()))
        self.assertEqual(len(keeper.all_quarrels()), 1)
        self.assertEqual(keeper.small(), table(keeper.web(), keeper.bodies()))
        keeper.put_body("a", (rough(["pet"]), rough(["wild"])))
        self.assertEqual(keeper.all_quarrels(), [])
        self.assertEqual(len(keeper.small()[1]), 4)

    def test_too_many_looks(self):
        keeper = Keeper()
        for number in range(6):
            keeper.put_body(letters(number), (rough(spans=[span(number, number)]),))
        keeper.put_body("all", (ANY,))
        self.assertEqual(len(keeper.small()[1]), 7)
        keeper.put_body("more", (rough(spans=[span(6, 6)]),))
        for ask in (keeper.small, keeper.all_quarrels):
            with self.assertRaises(TooMany):
                ask()
        self.assertEqual(keeper.pick([6]), ("one", "more"))
        keeper.drop_body("kaa")
        self.assertEqual(len(keeper.small()[1]), 7)


class Refused(unittest.TestCase):

    def refused(self, wanted, keeper, deed, *given):
        """What is refused, and that it changes nothing."""
        kept = copy.deepcopy(all_told(keeper))
        with self.assertRaises(FitError) as caught:
            {"put_kind": keeper.put_kind, "drop_kind": keeper.drop_kind, "put_body": keeper.put_body,
             "drop_body": keeper.drop_body}[deed](*given)
        self.assertIs(type(caught.exception), wanted, (deed, given))
        self.assertEqual(all_told(keeper), kept)
        return caught.exception

    def test_put_kind(self):
        for name in NO_NAMES:
            self.refused(NoName, pet_keeper(), "put_kind", name, [])
            self.refused(NoName, pet_keeper(), "put_kind", "ox", ["pet", name])
            self.refused(NoName, Keeper(), "put_kind", "ox", (name,))
        for name in ("pet", "cat", "dog"):
            self.refused(Taken, pet_keeper(), "put_kind", name, [])
        for over in (["cow"], ["pet", "cow"], ["ox"], ("pet", "ox"), ["feed"]):
            self.refused(NoKind, pet_keeper(), "put_kind", "ox", over)
        self.refused(NoKind, Keeper(), "put_kind", "ox", ["ox"])

    def test_put_kind_two_at_once(self):
        self.refused(NoName, pet_keeper(), "put_kind", "cat", ["On"])
        self.refused(NoName, pet_keeper(), "put_kind", "on", ["cow"])
        self.refused(NoName, pet_keeper(), "put_kind", "ox", ["cow", "on"])
        self.refused(NoName, pet_keeper(), "put_kind", "cat", ["cow", "on"])
        self.refused(Taken, pet_keeper(), "put_kind", "cat", ["cow"])
        self.refused(Taken, pet_keeper(), "put_kind", "cat", ["cat"])

    def test_drop_kind(self):
        for name in ("cow", "any", "", "feed", "Cat"):
            self.refused(NoKind, pet_keeper(), "drop_kind", name)
        self.refused(NoKind, Keeper(), "drop_kind", "cat")
        for name in ("pet", "wild"):
            self.refused(Held, pet_keeper(), "drop_kind", name)

    def test_held_by_a_kind_that_it_is_over(self):
        keeper = Keeper()
        keeper.put_kind("a", [])
        keeper.put_kind("b", ["a"])
        keeper.put_kind("c", ["b", "a"])
        self.refused(Held, keeper, "drop_kind", "a")
        self.refused(Held, keeper, "drop_kind", "b")
        keeper.drop_kind("c")
        self.refused(Held, keeper, "drop_kind", "a")
        keeper.drop_kind("b")
        keeper.drop_kind("a")
        self.assertEqual(keeper.web().names(), [])

    def test_held_by_bodies(self):
        for text in ("cat", "1..9|cat", "[cat]", "[[cat]]", "[[[cat]]]", "pet|[1]|[2|[5]|[3|[cat|4]]]"):
            for place in range(2):
                keeper = pet_keeper()
                told = read_kind(keeper.web(), text)
                keeper.put_body("held", (told, ANY) if place == 0 else (NONE, told))
                self.refused(Held, keeper, "drop_kind", "cat")
                keeper.drop_kind("dog")
                keeper.drop_body("held")
                self.assertIsNone(keeper.drop_kind("cat"))
        # A kind beneath one that stands in a row is not held.
        keeper = Keeper()
        keeper.put_kind("pet", [])
        keeper.put_kind("cat", ["pet"])
        keeper.put_body("a", (rough(["pet"]),))
        self.refused(Held, keeper, "drop_kind", "pet")
        keeper.drop_kind("cat")
        self.refused(Held, keeper, "drop_kind", "pet")
        keeper.drop_body("a")
        keeper.drop_kind("pet")

    def test_put_body(self):
        for name in NO_NAMES:
            self.refused(NoName, pet_keeper(), "put_body", name, (ANY, ANY))
            self.refused(NoName, Keeper(), "put_body", name, (ANY,))
        self.refused(Taken, pet_keeper(), "put_body", "feed", (ANY, ANY))
        for row in ((), [], (ANY,), (ANY, ANY, ANY), (ANY,) * 4):
            self.refused(NoPlaces, pet_keeper(), "put_body", "a", row)
        for row in ((), [], (ANY,) * 4):
            self.refused(NoPlaces, Keeper(), "put_body", "a", row)
        refusal = self.refused(Alike, pet_keeper(), "put_body", "a", (ANY, rough(["wild"])))
        self.assertEqual((refusal.one, refusal.other), ("flee", "a"))
        self.refused(Alike, pet_keeper(), "put_body", "a", [rough(["pet"]), ANY])

    def test_put_body_two_at_once(self):
        alike = (rough(["pet"]), ANY)
        self.refused(NoName, pet_keeper(), "put_body", "on", ())
        self.refused(NoName, pet_keeper(), "put_body", "on", alike)
        self.refused(Taken, pet_keeper(), "put_body", "flee", ())
        self.refused(Taken, pet_keeper(), "put_body", "flee", alike)

    def test_drop_body(self):
        for name in ("a", "cat", "", "any", "Feed", None, []):
            self.refused(NoBody, pet_keeper(), "drop_body", name)
        self.refused(NoBody, Keeper(), "drop_body", "feed")
        keeper = pet_keeper()
        keeper.drop_body("feed")
        self.refused(NoBody, keeper, "drop_body", "feed")


class Told:
    """What a keeper is to tell, kept as plain lists of tuples."""

    def __init__(self):
        self.kinds, self.bodies = [], []

    def names_in(self, told):
        """All names in a kind."""
        whole, names, spans, inners = told
        return list(names) + [name for inner in inners for name in self.names_in(inner)]

    def held(self, name):
        """Whether a kind is held."""
        return any(name in over for other, over in self.kinds) or any(
            name in self.names_in(told) for body, row in self.bodies for told in row)


class Behind(unittest.TestCase):

    def deed(self, source, keeper, told):
        """Do something with a keeper, and with what it is to tell."""
        names = [name for name, over in told.kinds]
        choice = source.random()
        if choice < 0.4 and len(names) < 10:
            name = letters(source.randrange(30))
            over = source.choices(names, k=source.randint(0, 3)) if names else []
            if name in names:
                self.assertRaises(Taken, keeper.put_kind, name, over)
            else:
                keeper.put_kind(name, over)
                told.kinds.append((name, over))
        elif choice < 0.55 and names:
            name = source.choice(names)
            if told.held(name):
                self.assertRaises(Held, keeper.drop_kind, name)
            else:
                keeper.drop_kind(name)
                told.kinds = [row for row in told.kinds if row[0] != name]
        elif choice < 0.8 and len(told.bodies) < 5:
            texts = ["any", "..", "1..9", "[any]", "[[1]]"] + names + [f"[{name}]" for name in names]
            row = tuple(read_kind(Web(told.kinds), "|".join(source.sample(texts, source.randint(1, 3)))) for _ in "12")
            name = source.choice("abcdefgh")
            if name in [body for body, _ in told.bodies]:
                self.assertRaises(Taken, keeper.put_body, name, row)
            elif row in [other for _, other in told.bodies]:
                self.assertRaises(Alike, keeper.put_body, name, row)
            else:
                keeper.put_body(name, source.choice((list, tuple))(row))
                told.bodies.append((name, row))
        elif told.bodies:
            name = source.choice(told.bodies)[0]
            keeper.drop_body(name)
            told.bodies = [body for body in told.bodies if body[0] != name]

    def check(self, source, keeper, told):
        """That a keeper tells what is told of a web and bodies made anew."""
        web = Web(told.kinds)
        self.assertEqual(keeper.web().names(), web.names())
        self.assertEqual([keeper.web().over(name) for name in web.names()], [web.over(name) for name in web.names()])
        self.assertEqual(keeper.bodies(), told.bodies)
        things = [None, 0, 5, [], [1], [[1]], *web.names(), *[[name] for name in web.names()]]
        for _ in range(4):
            call = source.choices(things, k=2)
            self.assertEqual(keeper.pick(call), picked(web, told.bodies, call))
            self.assertEqual(keeper.hand_on(call), line(web, told.bodies, call))
        if told.bodies:
            for ask, anew in ((keeper.all_quarrels, quarrels), (keeper.small, table)):
                try:
                    wanted = anew(web, told.bodies)
                except TooMany:
                    self.assertRaises(TooMany, ask)
                else:
                    self.assertEqual(ask(), wanted)

    def test_behind_any_row_of_deeds(self):
        for number in range(12):
            source = random.Random(number)
            pairs = [(Keeper(), Told()), (Keeper(), Told())]
            for _ in range(60):
                # Two keepers by turns.
                keeper, told = source.choice(pairs)
                self.deed(source, keeper, told)
                for keeper, told in pairs:
                    self.check(source, keeper, told)


class Kept(unittest.TestCase):

    def test_what_is_handed_in_stays_as_it_was_and_may_be_changed(self):
        keeper = pet_keeper()
        over, row, call = ["pet", "cat"], [CAT, CAT], [["cat"], "cat"]
        keeper.put_kind("lynx", over)
        keeper.put_body("a", row)
        keeper.pick(call)
        keeper.hand_on(call)
        self.assertEqual((over, row, call), (["pet", "cat"], [CAT, CAT], [["cat"], "cat"]))
        kept = copy.deepcopy(all_told(keeper))
        over.append("cow")
        row.clear()
        call[0].clear()
        self.assertEqual(all_told(keeper), kept)

    def test_what_is_told_may_be_changed(self):
        keeper = pet_keeper()
        kept = copy.deepcopy(all_told(keeper))
        for told in (keeper.bodies(), keeper.web().names(), keeper.web().over("cat"), keeper.all_quarrels(),
                     keeper.all_quarrels()[0][2], keeper.hand_on(["cat", "cat"]), *keeper.small(),
                     keeper.small()[0][0]):
            self.assertNotEqual(told, [])
            told.clear()
        self.assertEqual(all_told(keeper), kept)

    def test_what_was_told_ahead_of_a_deed_stays_as_it_was(self):
        keeper = pet_keeper()
        web, bodies, told = keeper.web(), keeper.bodies(), all_told(keeper)
        kept = copy.deepcopy((web.names(), web.over("cat"), bodies, told))
        keeper.drop_body("flee")
        keeper.drop_kind("cat")
        keeper.put_kind("cat", ["dog"])
        keeper.put_kind("ox", [])
        keeper.put_body("a", (kind("1"), ANY))
        self.assertEqual((web.names(), web.over("cat"), bodies, told), kept)
        self.assertEqual((web.beneath("cat", "wild"), keeper.web().beneath("cat", "wild")), (True, False))

    def test_two_keepers_of_the_same_names_by_turns(self):
        both, chain = Keeper(), Keeper()
        for keeper, over in ((both, []), (chain, ["x"])):
            keeper.put_kind("x", [])
            keeper.put_kind("y", over)
            keeper.put_kind("z", ["x", "y"])
            keeper.put_body("b", (rough(["x"]),))
            keeper.put_body("a", (rough(["y"]),))
        for _ in range(2):
            self.assertEqual((both.pick(["z"]), chain.pick(["z"])), (("quarrel", "b", "a"), ("one", "a")))
            self.assertEqual((both.hand_on(["z"]), chain.hand_on(["z"])), (["b", "a"], ["a", "b"]))


if __name__ == "__main__":
    unittest.main()
