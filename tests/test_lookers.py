"""lookers: [31], [32], [22] of flaws, and [2] of lookers."""

import collections
import copy
import random
import unittest

from fitmost.bodies import picked
from fitmost.errors import FitError, TooMany
from fitmost.kinds import joined, met, within
from fitmost.kindtexts import show_kind
from fitmost.lookers import flaws, kind_in
from fitmost.programs import Program
from fitmost.runs import run
from fitmost.spans import spans_less, spans_sum
from fitmost.things import own_kind
from fitmost.webs import Web
from samples import (ANY, NONE, PETS, kind, pets, plain_calls, plain_closer, plain_is_of, plain_picked, plain_run,
                     rough, sample_things, some_functions, some_program, span, told_program)

WEB = pets()


def shown(rows, body, place, function="f"):
    """The text of the kind at a place in a body of a program of rows."""
    return show_kind(kind_in(told_program(*rows.split("\n")), function, body, place))


def in_one_body(term, place=(), row="any", result="any"):
    """The text of the kind at a place in a term of the one body of f, beside functions that give several kinds."""
    return shown(f"f gives {result}\n  a({row}): {term}\n" + GIVERS, "a", place)


GIVERS = """num gives 0..9
  a(any): 1
lst gives [cat]|[1..9]
  a(any): []
all gives any
  a(any): blank
nil gives none
  a(any): nil(#0)"""


class Kinds(unittest.TestCase):

    def check(self, wanted, term, *more):
        self.assertEqual(in_one_body(term, *more), wanted, term)

    def test_whole_make_blank(self):
        self.check("3", "3")
        self.check("-12", "-12")
        self.check("lynx", "new lynx")
        self.check("any", "blank")

    def test_parts(self):
        for row in ("cat", "any", "none", "cat|1..9|[any]"):
            self.check(row, "#0", (), row)
            self.check("pet|7", "#1", (), f"{row}, pet|7, 1")
            self.check("1", "#2", (), f"{row}, pet|7, 1")

    def test_rows(self):
        self.check("[none]", "[]")
        self.check("[3]", "[3]")
        self.check("[any]", "[3, blank]")
        self.check("[dog|lynx|1..3|7]", "[3, 1, new lynx, 7, new dog, 2]")
        self.check("[cat|[[3]]]", "[new lynx, new cat, [], [[3]]]")
        self.check("[none]", "[#0]", (), "none")

    def test_sums_and_differences(self):
        for term, row, wanted in (
                ("(1 + 2)", "any", "3"), ("(1 - 2)", "any", "-1"), ("(#0 + #0)", "0..9", "0..18"),
                ("(#0 - #0)", "0..9", "-9..9"), ("(#0 + 1)", "0..", "1.."), ("(#0 - 1)", "..5", "..4"),
                ("(1 - #0)", "0..", "..1"), ("(#0 + #1)", "0.., ..5", ".."), ("(#0 - #1)", "0.., ..5", "-5.."),
                ("(#0 + #1)", "any, 1", ".."), ("(#1 - #0)", "any, 1", ".."), ("(#0 + #0)", "cat", "none"),
                ("(#0 + 1)", "[..]", "none"), ("(1 + #0)", "none", "none"), ("(blank - 1)", "any", ".."),
                ("(#0 + #1)", "1|5|cat, 10|20|[any]", "11|15|21|25"), ("(#0 + #1)", "any, cat", "none"),
                ("(#0 + #0)", "1|5", "2|6|10")):
            self.check(wanted, term, (), row)

    def test_calls_and_on(self):
        self.check("0..9", "num(1)")
        self.check("[1..9]|[cat]", "lst(new cat)")
        self.check("any", "all(1)")
        self.check("none", "nil(1)")
        self.check("cat", "f(1)", (), "any", "cat")
        self.check("cat", "on", (), "any", "cat")
        self.check("[cat]", "[on]", (), "any", "cat")

    def test_each(self):
        self.check("[0..9]", "num*([1, 2])")
        self.check("[none]", "num*([])")
        self.check("[none]", "num*(3)")
        self.check("[none]", "num*(#0)", (), "cat|1..9|[none]")
        self.check("[0..9]", "num*(#0)", (), "cat|1..9|[3]")
        self.check("[0..9]", "num*(#0)")
        self.check("[0..9]", "num*(blank)")
        self.check("[[1..9]|[cat]]", "lst*([[]])")
        self.check("[none]", "nil*([1])")
        self.check("[none]", "num*(#0)", (), "none")
        self.check("[[0..9]]", "[num*(#0)]", (), "[[none]]")

    def test_if_whose_sides_are_both_looked_at(self):
        self.check("1|5", "(#0 is cat ? 1 : 5)")
        self.check("1..2", "(#0 is cat ? 1 : 2)", (), "pet")
        self.check("any", "(#0 is cat ? 1 : blank)", (), "pet")

    def test_if_that_leaves_its_then_out(self):
        self.check("5", "(#0 is cat ? 1 : 5)", (), "dog")
        self.check("5", "(#0 is none ? 1 : 5)")
        self.check("5", "(3 is 4.. ? 1 : 5)")
        self.check("5", "([] is cat|1 ? 1 : 5)")

    def test_if_that_leaves_its_otherwise_out(self):
        self.check("1", "(#0 is pet ? 1 : 5)", (), "lynx")
        self.check("1", "(#0 is any ? 1 : 5)")
        self.check("1", "(3 is 1..9 ? 1 : 5)")
        self.check("1", "([] is [none] ? 1 : 5)")

    def test_if_that_leaves_both_out(self):
        self.check("none", "(#0 is pet ? 1 : 5)", (), "none")
        self.check("none", "(nil(1) is pet ? 1 : 5)")
        self.check("none", "(on is any ? 1 : 5)", (), "any", "none")
        # The list without things is of both.
        self.check("1|5", "([on] is [cat] ? 1 : 5)", (), "any", "..")
        self.check("1", "([on] is [cat] ? 1 : 5)", (), "any", "none")

    def test_the_kind_of_a_part_in_a_then(self):
        term = "(#0 is cat|1..9 ? [#0, #1] : [#0, #1])"
        row = "pet|5.., any"
        for place, wanted in (((0,), "pet|5.."), ((1, 0), "cat|5..9"), ((1, 1), "any"), ((2, 0), "pet|5.."),
                              ((2, 1), "any"), ((1,), "[any]"), ((2,), "[any]")):
            self.check(wanted, term, place, row)
            self.check(wanted, term, list(place), row)
        # Deep in the then, too, and in an if within.
        term = "(#0 is .. ? [(#0 is 0.. ? num((#0 + 1)) : #0)] : #0)"
        for place, wanted in (((), "any"), ((1,), "[..]"), ((1, 0), ".."), ((1, 0, 0), ".."), ((1, 0, 1), "0..9"),
                              ((1, 0, 1, 0), "1.."), ((1, 0, 1, 0, 0), "0.."), ((1, 0, 2), ".."), ((2,), "any")):
            self.check(wanted, term, place)

    def test_a_term_that_is_no_part_narrows_nothing(self):
        self.check("any", "([#0] is [cat] ? #0 : 1)", (1,))
        self.check("..", "((#0 + 0) is 0.. ? #0 : 1)", (1,), "..")
        self.check("any", "((#0 is cat ? #0 : 1) is cat ? #0 : 1)", (1,))
        self.check("cat", "((#0 is cat ? #0 : 1) is cat ? #0 : 1)", (0, 1))
        # What was made narrower in a then is so there alone.
        self.check("pet", "[(#0 is cat ? #0 : #0), #0]", (1,), "pet")
        self.check("pet", "[(#0 is cat ? #0 : #0), #0]", (0, 2), "pet")
        self.check("cat", "[(#0 is cat ? #0 : #0), #0]", (0, 1), "pet")

    def test_another_part_is_not_narrowed(self):
        self.check("cat", "(#1 is cat ? #1 : 0)", (1,), "pet, pet")
        self.check("pet", "(#1 is cat ? #0 : 0)", (1,), "pet, pet")
        self.check("pet", "(#0 is cat ? #1 : 0)", (1,), "pet, pet")

    def test_a_then_that_narrows_to_none_is_left_out(self):
        self.check("7", "(#0 is cat ? (#0 is stone ? 5 : 7) : 7)")
        self.check("5", "(#0 is cat ? (#0 is pet ? 5 : 7) : 5)")

    def test_of_several_bodies_and_functions(self):
        rows = "f gives cat\n  a(any): #0\n  b(pet): [#0]\ng gives dog\n  b(1): #0\n  a(2): on"
        for function, body, wanted in (("f", "a", "any"), ("f", "b", "[pet]"), ("g", "b", "1"), ("g", "a", "dog")):
            self.assertEqual(shown(rows, body, (), function), wanted)

    def test_kinds_greater_than_what_is_handed_in(self):
        self.check("[[[[[3]]]]]", "[[[[[3]]]]]")
        numbers = [str(number) for number in range(0, 57, 3)]
        self.check("[" + "|".join(numbers) + "]", "[" + ", ".join(numbers) + "]")
        lists = [f"[{number}]" for number in numbers]
        self.check("[" + "|".join(lists) + "]", "[" + ", ".join(lists) + "]")
        self.check(str(2 * 10 ** 60 - 2), f"({10 ** 60 - 1} + {10 ** 60 - 1})")


def plain_kind(functions, function, term, row):
    """The kind of a term in a body of a function, where its parts have the kinds of a row, by the words alone."""
    results = {name: result for name, result, bodies in functions}

    def told(inner):
        return plain_kind(functions, function, inner, row)

    def all_joined(kinds):
        whole = NONE
        for one in kinds:
            whole = joined(WEB, whole, one)
        return whole

    match term:
        case ("whole" | "make", thing):
            return own_kind(WEB, thing)
        case ("blank",):
            return ANY
        case ("part", number):
            return row[number]
        case ("row", terms):
            return rough(inners=[all_joined(map(told, terms))])
        case ("sum" | "less" as word, one, other):
            sides = [[span()] if side[0] else side[2] for side in (told(one), told(other))]
            return rough(spans=(spans_sum if word == "sum" else spans_less)(*sides))
        case ("call", name, terms):
            return results[name]
        case ("on",):
            return results[function]
        case ("each", name, inner):
            lists = met(WEB, told(inner), rough(inners=[ANY]))
            return rough(inners=[NONE if within(WEB, lists, rough(inners=[NONE])) else results[name]])
        case ("if", *inners):
            return all_joined(
                plain_kind(functions, function, inner, kinds)
                for number, inner, kinds in plain_looked_at(functions, function, term, row) if number)


def plain_looked_at(functions, function, term, row):
    """Tuples (number, term, row) of the terms straight within a term that are looked at, by the words alone."""
    match term:
        case ("row", terms) | ("call", _, terms):
            return [(number, inner, row) for number, inner in enumerate(terms)]
        case ("sum" | "less", one, other):
            return [(0, one, row), (1, other, row)]
        case ("each", _, inner):
            return [(0, inner, row)]
        case ("if", asked, wanted, then, otherwise):
            has = plain_kind(functions, function, asked, row)
            looked = [(0, asked, row)]
            if met(WEB, has, wanted) != NONE:
                there = list(row)
                if asked[0] == "part":
                    there[asked[1]] = met(WEB, has, wanted)
                looked.append((1, then, there))
            if not within(WEB, has, wanted):
                looked.append((2, otherwise, row))
            return looked
    return []


def all_looked_at(functions, function, term, row, place=()):
    """Tuples (place, term, row) of a term and all terms within it that are looked at."""
    told = [(place, term, row)]
    for number, inner, kinds in plain_looked_at(functions, function, term, row):
        told += all_looked_at(functions, function, inner, kinds, place + (number,))
    return told


class KindsByTheWords(unittest.TestCase):

    def test_kinds_of_many_programs(self):
        words = collections.Counter()
        for number in range(500):
            functions = some_functions(number)
            program = Program(WEB, functions)
            for name, result, bodies in functions:
                for body, row, term in bodies:
                    for place, inner, kinds in all_looked_at(functions, name, term, row):
                        wanted = plain_kind(functions, name, inner, kinds)
                        self.assertEqual(kind_in(program, name, body, place), wanted, (number, name, body, place))
                        self.assertEqual(kind_in(program, name, body, list(place)), wanted)
                        words[inner[0]] += 1
        self.assertEqual(len(words), 11)
        self.assertGreater(min(words.values()), 50)


def all_flaws(rows):
    """The flaws of a program of rows."""
    return flaws(told_program(*rows.split("\n")))


class Flaws(unittest.TestCase):

    def check(self, rows, *wanted):
        self.assertEqual(all_flaws(rows), list(wanted), rows)

    def test_no_flaws(self):
        self.check("f gives any\n  a(any): 1")
        self.check("f gives ..|[any]\n  a(..): (#0 + 1)\n  b([any]): []")
        self.check("f gives none\n  a(none): f(#0)\n  b(any): f(f(#0))")
        self.assertEqual(flaws(Program(WEB, [])), [])
        self.assertEqual(flaws(Program(Web([]), [])), [])

    def test_number(self):
        for word in "+-":
            self.check(f"f gives any\n  a(any): (1 {word} 2)")
            self.check(f"f gives any\n  a(cat): (#0 {word} 2)", ("f", "a", (), ("number", 0, "cat")))
            self.check(f"f gives any\n  a(cat): (2 {word} #0)", ("f", "a", (), ("number", 1, "cat")))
            self.check(f"f gives any\n  a(cat): (#0 {word} blank)", ("f", "a", (), ("number", 0, "cat")),
                       ("f", "a", (), ("number", 1, None)))
            self.check(f"f gives any\n  a(..|cat): (#0 {word} 1)", ("f", "a", (), ("number", 0, "cat")))
            self.check(f"f gives any\n  a(none): (#0 {word} #0)")
            self.check(f"f gives any\n  a([none]): (#0 {word} 1)", ("f", "a", (), ("number", 0, [])))
            self.check(f"f gives any\n  a(cat): [1, (#0 {word} 2)]", ("f", "a", (1,), ("number", 0, "cat")))

    def test_row(self):
        self.check("f gives any\n  a(any): f*([1])")
        self.check("f gives any\n  a(any): f*(1)", ("f", "a", (), ("row", 1)))
        self.check("f gives any\n  a(any): f*(blank)", ("f", "a", (), ("row", None)))
        self.check("f gives any\n  a(any): f*(#0)", ("f", "a", (), ("row", None)))
        self.check("f gives any\n  a(none): f*(#0)\n  b(any): []")
        self.check("f gives any\n  a(cat|[any]): 1\n  b(any): (#0 is cat|[any] ? f*(#0) : 1)",
                   ("f", "b", (1,), ("row", "cat")))

    def test_what_settles_calls(self):
        rows = "\ng gives any\n  p(pet): 1\n  w(wild): 2\n  n(0..): 3"
        for term, why in (("g(#0)", ("none", 0, [None])), ("g(new cat)", ("quarrel", "p", "w", ["cat"])),
                          ("g(new lynx)", ("quarrel", "p", "w", ["lynx"])), ("g(-1)", ("none", 0, [-1])),
                          ("g(new stone)", ("none", 0, ["stone"])), ("g([])", ("none", 0, [[]]))):
            self.check(f"f gives any\n  a(any): {term}" + rows, ("f", "a", (), why))
        for term in ("g(new dog)", "g(3)", "(#0 is dog|5.. ? g(#0) : 1)"):
            self.check(f"f gives any\n  a(any): {term}" + rows)
        # The own kind of what is made has the things of all kinds beneath it.
        self.assertEqual(all_flaws("f gives any\n  a(any): g(new pet)" + rows)[0][3][:3], ("quarrel", "p", "w"))

    def test_what_settles_calls_of_two_places(self):
        rows = "\ng gives any\n  a(pet, any): 1\n  b(any, 0..): 2"
        self.check("f gives any\n  a(dog): g(#0, 1)" + rows, ("f", "a", (), ("quarrel", "a", "b", ["dog", 1])))
        self.check("f gives any\n  a(dog): g(#0, -1)" + rows)
        self.check("f gives any\n  a(dog): g(1, #0)" + rows, ("f", "a", (), ("none", 1, [1, "dog"])))
        # A lack goes ahead of a quarrel.
        self.assertEqual(all_flaws("f gives any\n  a(any): g(#0, #0)" + rows)[0][3][0], "none")

    def test_what_settles_eaches(self):
        rows = "\ng gives any\n  p(pet): 1\n  w(wild): 2\n  n(0..): 3"
        self.check("f gives any\n  a(any): g*([1, new dog])" + rows)
        self.check("f gives any\n  a(any): g*([])" + rows)
        self.check("f gives any\n  a(any): g*([1, new lynx])" + rows,
                   ("f", "a", (), ("quarrel", "p", "w", ["lynx"])))
        self.check("f gives any\n  a([-1]|[dog]): g*(#0)" + rows, ("f", "a", (), ("none", 0, [-1])))
        self.check("f gives any\n  a([3]|[dog]): g*(#0)" + rows)
        # Of a kind that is no list's, and of any: not of lists alone, and what settles its inners, joined.
        self.check("f gives any\n  a(cat): g*(#0)" + rows, ("f", "a", (), ("row", "cat")))
        self.check("f gives any\n  a(cat|[stone]): g*(#0)" + rows, ("f", "a", (), ("row", "cat")),
                   ("f", "a", (), ("none", 0, ["stone"])))
        self.check("f gives any\n  a(any): g*(#0)" + rows, ("f", "a", (), ("row", None)),
                   ("f", "a", (), ("none", 0, [None])))

    def test_end(self):
        self.check("f gives any\n  a(any): on", ("f", "a", (), ("end",)))
        self.check("f gives any\n  a(any): 1\n  b(cat): on")
        self.check("f gives any\n  a(pet): [on]\n  b(cat): on", ("f", "a", (0,), ("end",)))
        # That both fit is not enough.
        self.check("f gives any\n  a(pet): on\n  b(wild): 1\n  c(cat): on", ("f", "a", (), ("end",)))
        self.check("f gives any\n  a(pet, any): 1\n  b(cat, 1): on\n  c(any, 1): 1")
        # The body's own kinds are asked, not those of a then.
        self.check("f gives any\n  a(any): (#0 is cat ? on : 1)\n  b(pet): 1", ("f", "a", (1,), ("end",)))

    def test_result(self):
        self.check("f gives cat\n  a(any): new lynx\n  b(1): new cat")
        self.check("f gives cat\n  a(any): new pet", ("f", "a", (), ("result", "pet")))
        self.check("f gives 0..\n  a(any): #0", ("f", "a", (), ("result", None)))
        self.check("f gives 0..\n  a(..): #0", ("f", "a", (), ("result", -1)))
        self.check("f gives [1]|[2]\n  a(any): [1, 2]", ("f", "a", (), ("result", [2, 1])))
        self.check("f gives none\n  a(any): f(#0)\n  b(none): #0")
        self.check("f gives none\n  a(none): []", ("f", "a", (), ("result", [])))

    def test_several_at_one_place(self):
        self.check("f gives ..\n  a(any): f*(#0)\n  b(cat): (new cat + on)",
                   ("f", "a", (), ("row", None)), ("f", "a", (), ("result", [])),
                   ("f", "b", (), ("number", 0, "cat")))
        self.check("f gives cat\n  a(any): on", ("f", "a", (), ("end",)))
        self.check("f gives cat\n  a(1): f(#0)\n  b(2): f(3)", ("f", "b", (), ("none", 0, [3])))
        self.check("f gives cat\n  a(cat|..): (#0 - blank)", ("f", "a", (), ("number", 0, "cat")),
                   ("f", "a", (), ("number", 1, None)), ("f", "a", (), ("result", 0)))
        rows = "g gives ..\n  p(pet): 1\n  w(wild): 2"
        self.check("f gives cat\n  a(cat|[cat]): g*(#0)\n" + rows, ("f", "a", (), ("row", "cat")),
                   ("f", "a", (), ("quarrel", "p", "w", ["cat"])), ("f", "a", (), ("result", [])))

    def test_places_in_order(self):
        rows = "f gives cat\n  a(any): [(1 + blank), f*(2), [on, (blank - (blank + blank))]]"
        self.check(rows, ("f", "a", (), ("result", [])), ("f", "a", (0,), ("number", 1, None)),
                   ("f", "a", (1,), ("row", 2)), ("f", "a", (2, 0), ("end",)), ("f", "a", (2, 1), ("number", 0, None)),
                   ("f", "a", (2, 1, 1), ("number", 0, None)), ("f", "a", (2, 1, 1), ("number", 1, None)))
        # Places rise as numbers do.
        rows = "f gives any\n  a(any): [" + ", ".join(["on"] * 12) + "]"
        self.check(rows, *[("f", "a", (number,), ("end",)) for number in range(12)])

    def test_functions_and_bodies_in_order(self):
        rows = "g gives any\n  b(any): on\n  a(cat): (on + 1)\nf gives any\n  a(1): on\n  b(2): on"
        self.check(rows, ("g", "b", (), ("end",)), ("g", "a", (), ("number", 0, None)), ("f", "a", (), ("end",)),
                   ("f", "b", (), ("end",)))

    def test_none_of_what_an_if_leaves_out(self):
        bad = "(blank + f*(on))"
        whole = (("number", 0, None), ("number", 1, []))
        for term, at in ((f"(1 is 1 ? 1 : {bad})", None), (f"(1 is 2 ? {bad} : 1)", None),
                         (f"(#0 is none ? {bad} : 1)", None), (f"(#0 is any ? 1 : [{bad}])", None),
                         (f"(#0 is cat ? {bad} : 1)", 1), (f"(#0 is cat ? 1 : {bad})", 2),
                         (f"({bad} is any ? 1 : {bad})", 0)):
            told = all_flaws(f"f gives any\n  a(any): {term}")
            self.assertEqual([(flaw[2], flaw[3]) for flaw in told], [] if at is None else [
                ((at,), whole[0]), ((at,), whole[1]), ((at, 1), ("row", None)), ((at, 1, 0), ("end",))], term)
        # An if of a term that tells nothing looks at neither.
        self.check(f"f gives none\n  a(none): (#0 is cat ? {bad} : {bad})")

    def test_a_then_goes_by_the_kind_that_is_narrowed(self):
        self.check("f gives ..\n  a(any): (#0 is .. ? (#0 + 1) : 0)")
        self.check("f gives ..\n  a(any, any): (#0 is .. ? (#1 is .. ? (#0 + #1) : #0) : 0)")
        self.check("f gives ..\n  a(any, any): (#0 is .. ? (#0 + #1) : 0)", ("f", "a", (1,), ("number", 1, None)))
        self.check("f gives ..\n  a(any): (#0 is .. ? 0 : (#0 + 1))", ("f", "a", (2,), ("number", 0, None)))

    def test_too_many_looks_wherever_they_stand(self):
        many = "m gives any\n" + "\n".join(f"  {name}({number}): on" for number, name in enumerate("abcdefg"))
        few = many.replace("\n  g(6): on", "\n  g(any): 1")
        other = "f gives any\n  a(any): (blank + on)"
        self.assertEqual(len(all_flaws(few + "\n" + other)), 3)
        last = "g gives any\n  a(any): 1"
        for rows in (many, many + "\n" + other, other + "\n" + many, other + "\n" + many + "\n" + last):
            with self.assertRaises(FitError) as caught:
                all_flaws(rows)
            self.assertIs(type(caught.exception), TooMany)
            # Kinds are told all the same.
            self.assertEqual(shown(rows, "a", (), "m"), "any")
        spread = "m gives any\n  a(1, 2, any): 1\n  b(2, 3, none): 1\n  c(4, 4, {}): 1"
        self.assertEqual(len(all_flaws(spread.format("any"))), 0)
        with self.assertRaises(TooMany):
            all_flaws(spread.format("4"))


class FlawsByTheWords(unittest.TestCase):

    def whys(self, functions, function, body, term, row):
        """What is to be told of a term: tuples of words, of its things one that shows it to be left out."""
        def kind_of(inner):
            return plain_kind(functions, function, inner, row)

        def settles(name, kinds):
            rows = [(told, theirs) for told, theirs, _ in dict((one, two) for one, _, two in functions)[name]]
            found = {plain_picked(WEB, PETS, rows, call)[0] for call in plain_calls(WEB, rows, kinds)}
            return [word for word in ("none", "quarrel") if word in found][:1]

        match term:
            case ("sum" | "less", one, other):
                return [("number", side) for side, inner in enumerate((one, other))
                        if not within(WEB, kind_of(inner), kind(".."))]
            case ("call", name, terms):
                return [(word,) for word in settles(name, [kind_of(inner) for inner in terms])]
            case ("each", name, inner):
                told = kind_of(inner)
                things = ANY if told[0] else NONE
                for one in told[3]:
                    things = joined(WEB, things, one)
                rows = [] if within(WEB, told, kind("[any]")) else [("row",)]
                return rows + [(word,) for word in settles(name, [things])]
            case ("on",):
                bodies = [told[:2] for told in dict((one, two) for one, _, two in functions)[function]]
                mine = next(told for told in bodies if told[0] == body)
                return [] if any(plain_closer(WEB, mine, other) for other in bodies) else [("end",)]
        return []

    def wanted(self, functions):
        """All flaws that are to be told, by the words alone, what shows them left out."""
        told = []
        for function, result, bodies in functions:
            for body, row, term in bodies:
                found = [(place, why) for place, inner, kinds in all_looked_at(functions, function, term, row)
                         for why in self.whys(functions, function, body, inner, kinds)]
                if not within(WEB, plain_kind(functions, function, term, row), result):
                    found.append(((), ("result",)))
                found.sort(key=lambda flaw: flaw[0])
                told += [(function, body, place, why) for place, why in found]
        return told

    def check_shown(self, program, functions, flaw):
        """That what a flaw tells shows that it is so; the flaw without it."""
        function, body, place, why = flaw
        terms = {(name, told): term for name, _, bodies in functions for told, _, term in bodies}
        term = terms[function, body]
        for step in place:
            if term[0] in ("row", "call"):
                term = term[-1][step]
            else:
                term = term[{"if": (1, 3, 4), "each": (2,), "sum": (1, 2), "less": (1, 2)}[term[0]][step]]
        if why[0] == "number":
            self.assertTrue(plain_is_of(PETS, why[2], kind_in(program, function, body, place + (why[1],))))
            self.assertIsNot(type(why[2]), int)
            return why[:2]
        if why[0] == "row":
            self.assertTrue(plain_is_of(PETS, why[1], kind_in(program, function, body, place + (0,))))
            self.assertIsNot(type(why[1]), list)
        elif why[0] == "result":
            result = {name: told for name, told, _ in functions}[function]
            self.assertTrue(plain_is_of(PETS, why[1], kind_in(program, function, body, ())))
            self.assertFalse(plain_is_of(PETS, why[1], result))
        elif why[0] in ("none", "quarrel"):
            rows = [told[:2] for told in {name: bodies for name, _, bodies in functions}[term[1]]]
            self.assertEqual(picked(WEB, rows, why[-1]), why[:-1])
            if term[0] == "call":
                for number, thing in enumerate(why[-1]):
                    self.assertTrue(plain_is_of(PETS, thing, kind_in(program, function, body, place + (number,))))
            else:
                # A thing is in a list of a kind just where the list of it alone is of it.
                told = kind_in(program, function, body, place + (0,))
                self.assertTrue(plain_is_of(PETS, list(why[-1]), told))
        else:
            self.assertEqual(why, ("end",))
        return why[:1]

    def test_flaws_of_many_programs(self):
        whys = collections.Counter()
        for number in range(800):
            functions = some_functions(number)
            program = Program(WEB, functions)
            told = flaws(program)
            self.assertIs(type(told), list)
            short = [flaw[:3] + (self.check_shown(program, functions, flaw),) for flaw in told]
            self.assertEqual(short, self.wanted(functions), number)
            whys.update(flaw[3][0] for flaw in told)
            whys["nothing"] += not told
        self.assertEqual(set(whys), {"number", "row", "none", "quarrel", "end", "result", "nothing"})
        self.assertGreater(min(whys.values()), 20)

    def test_runs_of_programs_without_flaws(self):
        source = random.Random(32)
        things = sample_things()
        many, words = 0, collections.Counter()
        for number in range(3000):
            functions = some_functions(number)
            program = Program(WEB, functions)
            if flaws(program):
                continue
            for name, result, bodies in functions:
                rows = [told[:2] for told in bodies]
                calls = plain_calls(WEB, rows, [ANY] * len(rows[0][1]))
                calls += [[source.choice(things) for _ in rows[0][1]] for _ in range(6)]
                for call in calls:
                    if plain_picked(WEB, PETS, rows, call)[0] != "one":
                        continue
                    seen = []
                    told = run(program, name, call)
                    self.assertEqual(told, plain_run(PETS, functions, name, call, seen=seen))
                    self.assertIn(told[0], ("thing", "long"))
                    if told[0] == "thing":
                        self.assertTrue(plain_is_of(PETS, told[1], result))
                    for function, body, place, thing in seen:
                        told_kind = kind_in(program, function, body, place)
                        self.assertTrue(plain_is_of(PETS, thing, told_kind), (number, name, call, place))
                    words[told[0]] += 1
                    many += 1
        self.assertGreater(many, 1000)
        self.assertGreater(words["long"], 20)


class Kept(unittest.TestCase):

    def test_what_is_handed_in_stays_as_it_was(self):
        functions = [("f", ANY, [("a", [kind("[any]")], ("row", [("each", "f", ("part", 0)), ("on",)]))])]
        kept = copy.deepcopy(functions)
        program = Program(WEB, functions)
        place = [0, 0]
        first = flaws(program)
        told = kind_in(program, "f", "a", place)
        self.assertEqual((functions, place), (kept, [0, 0]))
        functions[0][2].clear()
        place.clear()
        self.assertEqual((flaws(program), kind_in(program, "f", "a", [0, 0])), (first, told))

    def test_what_is_told_may_be_changed(self):
        for number in range(60):
            program = some_program(number)
            first = flaws(program)
            kept = copy.deepcopy(first)
            for flaw in first:
                for part in flaw[3]:
                    self.spoil(part)
            first.append("stone")
            self.assertEqual(flaws(program), kept)

    def spoil(self, thing):
        """Empty a list, and all lists in it."""
        if isinstance(thing, list):
            for part in thing:
                self.spoil(part)
            thing.clear()

    def test_webs_of_the_same_names_by_turns(self):
        tuples = [("x", []), ("y", []), ("z", ["x", "y"])], [("x", []), ("y", ["x"]), ("z", ["y"])]
        functions = [("f", ANY, [("b", (rough(["x"]),), ("call", "f", (("make", "z"),))),
                                 ("a", (rough(["y"]),), ("if", ("part", 0), rough(["x"]), ("part", 0), ("on",)))])]
        both, chain = [Program(Web(told), functions) for told in tuples]
        for _ in range(2):
            self.assertEqual(flaws(both), [("f", "b", (), ("quarrel", "b", "a", ["z"])), ("f", "a", (2,), ("end",))])
            self.assertEqual(flaws(chain), [])
            self.assertEqual(kind_in(both, "f", "a", (1,)), rough(["z"]))
            self.assertEqual(kind_in(chain, "f", "a", (1,)), rough(["y"]))

    def test_programs_of_the_same_names_by_turns(self):
        one = told_program("f gives any", "  a(cat): on", "  b(pet): 2")
        other = told_program("f gives any", "  a(pet): on", "  b(cat): 2")
        for _ in range(2):
            self.assertEqual(flaws(one), [])
            self.assertEqual(flaws(other), [("f", "a", (), ("end",))])


if __name__ == "__main__":
    unittest.main()
