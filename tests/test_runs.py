"""runs: [30], and [2] of runs."""

import collections
import copy
import random
import unittest

from fitmost.lookers import flaws
from fitmost.programs import Program
from fitmost.runs import run
from fitmost.webs import Web
from samples import (ANY, PETS, kind, pets, plain_run, rough, sample_things, some_functions, some_program, told_program)

LONG = ("long",)


def told(rows, things, most=200):
    """What the first function of a program of rows tells of things."""
    program = told_program(*rows.split("\n"))
    return run(program, program.functions()[0][0], things, most)


def one_term(text, things=(7,)):
    """What a term tells in a body of some places, beside a few functions."""
    row = ", ".join("any" for _ in things)
    return told(f"m gives any\n  a({row}): {text}\n" + FUNCTIONS, list(things))


FUNCTIONS = """f gives any
  num(..): (#0 + 1)
  cat(cat): new dog
  pet(pet): new lynx
  lst([any]): f*(#0)
g gives any
  one(.., any): [#0, #1]
  two(any, ..): [#1, #0]
loop gives any
  a(any): loop(#0)
same gives any
  a(any): #0
last gives any
  a(any): on"""


class Terms(unittest.TestCase):

    def check(self, wanted, text, *things):
        self.assertEqual(one_term(text, things or (7,)), wanted, text)

    def test_whole_make_blank(self):
        self.check(("thing", 0), "0")
        self.check(("thing", -12), "-12")
        self.check(("thing", 10 ** 60 - 1), "9" * 60)
        self.check(("thing", "lynx"), "new lynx")
        self.check(("thing", None), "blank")

    def test_parts(self):
        self.check(("thing", 7), "#0")
        self.check(("thing", "cat"), "#0", "cat", [1], None)
        self.check(("thing", [1, [2]]), "#1", "cat", [1, [2]], None)
        self.check(("thing", None), "#2", "cat", [1], None)

    def test_rows(self):
        self.check(("thing", []), "[]")
        self.check(("thing", [7, None, [], [1, ["cat"]]]), "[#0, blank, [], [1, [new cat]]]")

    def test_sums_and_differences(self):
        self.check(("thing", 12), "(#0 + 5)")
        self.check(("thing", 2), "(#0 - 5)")
        self.check(("thing", -2), "(5 - #0)")
        self.check(("thing", 0), "((1 + -3) - (1 - 3))")
        self.check(("thing", 2 * 10 ** 60 - 2), f"({'9' * 60} + {'9' * 60})")
        self.check(("thing", -2 * 10 ** 60 + 2), f"(-{'9' * 60} - {'9' * 60})")
        for text in ("(blank + 1)", "(1 + blank)", "(new cat - 1)", "(1 - [])", "([1] + [1])", "(#0 - blank)"):
            self.check(("number",), text)

    def test_calls(self):
        self.check(("thing", 8), "f(#0)")
        self.check(("thing", 10), "f(f(f(#0)))")
        self.check(("thing", [1, "cat"]), "g(1, new cat)")
        self.check(("thing", [1, "cat"]), "g(new cat, 1)")
        self.check(("quarrel", "g", "one", "two"), "g(1, 1)")
        self.check(("none", "g", 1), "g(blank, blank)")
        self.check(("none", "f", 0), "f(new stone)")

    def test_each(self):
        self.check(("thing", []), "f*([])")
        self.check(("thing", [2, "dog", "lynx", [3]]), "f*([1, new lynx, new dog, [2]])")
        for text in ("f*(1)", "f*(blank)", "f*(new cat)", "loop*(1)"):
            self.check(("row",), text)
        # From the first thing on: the first that ends without a thing is told.
        self.check(("none", "f", 0), "f*([1, new stone, [[new stone]], blank])")
        self.check(("none", "f", 0), "f*([blank, 1])")

    def test_if(self):
        self.check(("thing", 1), "(#0 is .. ? 1 : 2)")
        self.check(("thing", 2), "(#0 is cat ? 1 : 2)")
        self.check(("thing", 2), "(blank is cat|..|[any] ? 1 : 2)")
        self.check(("thing", 1), "(blank is any ? 1 : 2)")
        self.check(("thing", 2), "(#0 is none ? 1 : 2)")
        self.check(("thing", 1), "([1, new lynx] is [..|cat] ? 1 : 2)")
        self.check(("thing", 2), "([1, new lynx] is [..]|[cat] ? 1 : 2)")

    def test_of_an_if_one_alone(self):
        self.check(("thing", 1), "(#0 is .. ? 1 : loop(1))")
        self.check(("thing", 2), "(#0 is cat ? (1 + blank) : 2)")
        self.check(("number",), "(#0 is .. ? (1 + blank) : 2)")
        self.check(("row",), "(#0 is cat ? 1 : f*(2))")
        self.check(("number",), "((1 + blank) is any ? f*(1) : f*(2))")

    def test_own_terms_from_left_to_right(self):
        number, lack, row, long, end = "(1 + blank)", "f(blank)", "f*(1)", "loop(1)", "last(1)"
        whys = {number: ("number",), lack: ("none", "f", 0), row: ("row",), long: LONG, end: ("end", "last", "a")}
        for first, why in whys.items():
            for second in whys:
                for text in (f"[{first}, {second}]", f"[1, {first}, {second}]", f"({first} + {second})",
                             f"({first} - {second})", f"g({first}, {second})", f"({first} is any ? {second} : 1)",
                             f"[[{first}], {second}]", f"f*([{first}, {second}])"):
                    self.check(why, text)
            # What its terms tell comes ahead of what a term itself can't be done to.
            self.check(why, f"(blank + {first})")
            self.check(why, f"(blank - {first})")
            self.check(why, f"({first} + blank)")
            self.check(why, f"f*({first})")
            self.check(why, f"g(blank, {first})")
            self.check(why, f"loop({first})")


class Lines(unittest.TestCase):

    CHAIN = "f gives any\n  all(any): [1, #0]\n  cat(cat): [2, on]\n  pet(pet): [3, on]\n  num(..): on"

    def test_on_by_the_line(self):
        self.assertEqual(told(self.CHAIN, ["lynx"]), ("thing", [2, [3, [1, "lynx"]]]))
        self.assertEqual(told(self.CHAIN, ["dog"]), ("thing", [3, [1, "dog"]]))
        self.assertEqual(told(self.CHAIN, [4]), ("thing", [1, 4]))
        self.assertEqual(told(self.CHAIN, [None]), ("thing", [1, None]))

    def test_on_at_the_last_one(self):
        self.assertEqual(told("f gives any\n  a(any): on", [1]), ("end", "f", "a"))
        rows = "f gives any\n  b(pet): on\n  a(cat): on\n  c(dog): 1"
        self.assertEqual(told(rows, ["cat"]), ("end", "f", "b"))
        self.assertEqual(told(rows, ["pet"]), ("end", "f", "b"))
        self.assertEqual(told(rows, ["dog"]), ("thing", 1))

    def test_on_to_bodies_that_quarrel_between_them(self):
        # Behind the picked one the line goes on by the list's order.
        rows = "f gives any\n  p(pet): [1, on]\n  w(wild): [2]\n  c(cat): on"
        self.assertEqual(told(rows, ["cat"]), ("thing", [1, [2]]))
        rows = "f gives any\n  w(wild): [2, on]\n  p(pet): [1]\n  c(cat): on"
        self.assertEqual(told(rows, ["cat"]), ("thing", [2, [1]]))

    def test_on_twice_in_one_term(self):
        rows = "f gives any\n  a(any): 5\n  b(..): (on + on)\n  c(3): [on, on]"
        self.assertEqual(told(rows, [3]), ("thing", [10, 10]))

    def test_things_of_two_places_are_handed_on(self):
        rows = "f gives any\n  a(any, any): [#1, #0]\n  b(cat, any): on\n  c(cat, ..): on"
        self.assertEqual(told(rows, ["lynx", 3]), ("thing", [3, "lynx"]))
        self.assertEqual(told(rows, ["lynx", None]), ("thing", [None, "lynx"]))

    def test_quarrels_and_lacks_of_the_first_call(self):
        rows = "f gives any\n  p(pet, any): 1\n  w(wild, any): 2\n  n(.., cat): 3"
        self.assertEqual(told(rows, ["cat", 1]), ("quarrel", "f", "p", "w"))
        self.assertEqual(told(rows, ["stone", 1]), ("none", "f", 0))
        self.assertEqual(told(rows, [1, 1]), ("none", "f", 1))
        self.assertEqual(told(rows, ("dog", 1)), ("thing", 1))


class Long(unittest.TestCase):

    # f counts down to 0, each call within the one before.
    DOWN = "f gives any\n  z(0): new stone\n  n(1..): f((#0 - 1))"
    # f calls g once for each thing that it is handed.
    WIDE = "f gives any\n  a([any]): g*(#0)\ng gives any\n  a(any): #0"

    def test_calls_within_twelve_others_and_thirteen(self):
        self.assertEqual(told(self.DOWN, [12]), ("thing", "stone"))
        self.assertEqual(told(self.DOWN, [13]), LONG)
        self.assertEqual(told(self.DOWN, [200]), LONG)
        self.assertEqual(told("f gives any\n  a(any): f(#0)", [1]), LONG)

    def test_calls_of_each_within_twelve_others_and_thirteen(self):
        rows = "f gives any\n  z(0): 0\n  n(1..): (f*([(#0 - 1)]) is any ? #0 : 0)"
        for many in range(13):
            self.assertEqual(told(rows, [many]), ("thing", many))
        self.assertEqual(told(rows, [13]), LONG)
        # The first call, and three at each step.
        rows = "f gives any\n  z(0): 0\n  n(1..): (f*([0, (#0 - 1), 0]) is any ? #0 : 0)"
        self.assertEqual(told(rows, [12], 37), ("thing", 12))
        self.assertEqual(told(rows, [12], 36), LONG)

    def test_so_many_calls_and_one_more(self):
        for most in range(1, 14):
            self.assertEqual(told(self.DOWN, [most - 1], most), ("thing", "stone"))
            self.assertEqual(told(self.DOWN, [most], most), LONG)
        for most in (1, 2, 9, 40, 60):
            self.assertEqual(told(self.WIDE, [[0] * (most - 1)], most), ("thing", [0] * (most - 1)))
            if most < 60:
                self.assertEqual(told(self.WIDE, [[0] * most], most), LONG)

    def test_two_hundred_calls_where_no_most_is_handed_in(self):
        program = told_program("f gives any", "  a([any], [any], [any]): [h(h*(#0)), h(h*(#0)), h(h*(#1)), h(h*(#2))]",
                               "h gives any", "  a(any): 0")
        for many, wanted in ((57, ("thing", [0, 0, 0, 0])), (58, LONG)):
            # The first call, one for each list that is gone through, and one for each thing in it.
            self.assertEqual(1 + 4 + 40 + 40 + 58 + 57, 200)
            things = [[0] * 40, [0] * 58, [0] * many]
            self.assertEqual(run(program, "f", things), wanted)
            self.assertEqual(run(program, "f", things, 200), wanted)
            self.assertEqual(run(program, "f", things, 199), LONG)
            self.assertEqual(run(program, "f", things, most=200), wanted)

    def test_to_hand_on_is_a_call(self):
        rows = "f gives any\n  a(any): 1\n  b(..): on\n  c(3): on"
        for most, wanted in ((1, LONG), (2, LONG), (3, ("thing", 1)), (4, ("thing", 1))):
            self.assertEqual(told(rows, [3], most), wanted)
        self.assertEqual(told(rows, [4], 2), ("thing", 1))
        self.assertEqual(told(rows, [4], 1), LONG)

    def test_to_hand_on_is_a_call_within(self):
        rows = "f gives any\n  a(any): 5\n  z(0): on\n  n(1..): f((#0 - 1))"
        self.assertEqual(told(rows, [11]), ("thing", 5))
        self.assertEqual(told(rows, [12]), LONG)
        # The body that is handed on to calls within it.
        rows = "f gives any\n  a(..): g(#0)\n  z(0): on\n  n(1..): f((#0 - 1))\ng gives any\n  a(any): new cat"
        self.assertEqual(told(rows, [10]), ("thing", "cat"))
        self.assertEqual(told(rows, [11]), LONG)

    def test_too_many_ahead_of_what_is_picked(self):
        rows = "f gives any\n  z(0): f(blank)\n  n(1..): f((#0 - 1))"
        self.assertEqual(told(rows, [11]), ("none", "f", 0))
        self.assertEqual(told(rows, [12]), LONG)
        self.assertEqual(told(rows, [3], 5), ("none", "f", 0))
        self.assertEqual(told(rows, [3], 4), LONG)
        rows = "f gives any\n  z(0): g(new cat)\n  n(1..): f((#0 - 1))\ng gives any\n  p(pet): 1\n  w(wild): 1"
        self.assertEqual(told(rows, [3], 5), ("quarrel", "g", "p", "w"))
        self.assertEqual(told(rows, [3], 4), LONG)

    def test_too_many_ahead_of_whether_a_body_is_left(self):
        rows = "f gives any\n  z(0): on\n  n(1..): f((#0 - 1))"
        self.assertEqual(told(rows, [11]), ("end", "f", "z"))
        self.assertEqual(told(rows, [12]), LONG)
        self.assertEqual(told(rows, [3], 5), ("end", "f", "z"))
        self.assertEqual(told(rows, [3], 4), LONG)

    def test_a_call_of_a_calls_thing_is_not_within_it(self):
        rows = "f gives any\n  a(any): " + "g(" * 5 + "#0" + ")" * 5 + "\ng gives any\n  a(any): " + "h(#0)" \
               + "\nh gives any\n  a(any): #0"
        self.assertEqual(told(rows, [1], 11), ("thing", 1))
        self.assertEqual(told(rows, [1], 10), LONG)

    def test_rows_of_sixty_things_and_one_more(self):
        for inside, wanted in ((58, "thing"), (59, "long")):
            # With the list itself and one thing more: sixty, or sixty-one.
            rows = "f gives any\n  a(any): [1, #0]"
            self.assertEqual(told(rows, [[0] * (inside - 1)])[0], wanted)
        terms = ", ".join(["1"] * 30)
        rows = f"f gives any\n  a(any, any): [[{terms}], #0, #1]"
        # The list, the one of thirty with its things, and both parts.
        self.assertEqual(told(rows, [[0] * 26, 0])[0], "thing")
        self.assertEqual(told(rows, [[0] * 27, 0])[0], "long")
        self.assertEqual(told(rows, [[0, [0] * 24], 0])[0], "thing")
        self.assertEqual(told(rows, [[0, [0] * 25], 0])[0], "long")

    def test_lists_of_sixty_things_by_each(self):
        rows = "f gives any\n  a([any]): g*(#0)\ng gives any\n  a(..): #0\n  b(0): [0, 0]\n  c(-1): []"
        self.assertEqual(told(rows, [[1] * 59]), ("thing", [1] * 59))
        self.assertEqual(told(rows, [[1] * 60]), LONG)
        self.assertEqual(told(rows, [[0] * 19 + [1, -1]]), ("thing", [[0, 0]] * 19 + [1, []]))
        self.assertEqual(told(rows, [[0] * 19 + [1, -1, 1]]), LONG)
        # Behind all its calls: the last one has none to take it.
        self.assertEqual(told(rows, [[1] * 70 + [None]]), ("none", "g", 0))

    def test_lists_in_one_another(self):
        self.assertEqual(told("f gives any\n  a(any): [#0]", [[[]]]), ("thing", [[[]]]))
        self.assertEqual(told("f gives any\n  a(any): [#0]", [[[[]]]]), LONG)
        self.assertEqual(told("f gives any\n  a(any): [[[1]]]", [1]), ("thing", [[[1]]]))
        self.assertEqual(told("f gives any\n  a(any): [[[[]]]]", [1]), LONG)
        self.assertEqual(told("f gives any\n  a(any): [1, [2, [3, [4]]]]", [1]), LONG)
        rows = "f gives any\n  a([any]): g*(#0)\ng gives any\n  a(any): [#0]"
        self.assertEqual(told(rows, [[[], 1]]), ("thing", [[[]], [1]]))
        self.assertEqual(told(rows, [[1, [[]]]]), LONG)
        # A list that is handed on alone is not looked at.
        self.assertEqual(told("f gives any\n  a(any): #0", [[[[[]]]]]), ("thing", [[[[]]]]))

    def test_a_row_that_is_too_long_ends_the_run_on_the_spot(self):
        self.assertEqual(told("f gives any\n  a(any): [[[[[]]]], (1 + blank)]", [1]), LONG)
        self.assertEqual(told("f gives any\n  a(any): [(1 + blank), [[[[]]]]]", [1]), ("number",))
        self.assertEqual(told("f gives any\n  a(any): ([[[[]]]] is any ? 1 : 2)", [1]), LONG)

    def test_numbers_of_more_than_sixty_figures(self):
        rows = "f gives any\n  a(any, 0): #0\n  b(.., 1..): f((#0 + #0), (#1 - 1))"
        self.assertEqual(told(rows, [10 ** 60 - 1, 12]), ("thing", (10 ** 60 - 1) * 2 ** 12))
        self.assertEqual(told(rows, [-10 ** 60 + 1, 12]), ("thing", -(10 ** 60 - 1) * 2 ** 12))


class ByTheWords(unittest.TestCase):

    def test_runs_of_many_programs(self):
        source = random.Random(30)
        things = sample_things()
        whys = collections.Counter()
        for number in range(700):
            functions = some_functions(number)
            program = Program(pets(), functions)
            for name, result, bodies in functions:
                for _ in range(4):
                    call = [source.choice(things) for _ in bodies[0][1]]
                    most = source.choice((1, 2, 3, 5, 20, 200))
                    wanted = plain_run(PETS, functions, name, call, most)
                    self.assertEqual(run(program, name, call, most), wanted, (number, name, call, most))
                    whys[wanted[0]] += 1
        self.assertEqual(set(whys), {"thing", "quarrel", "none", "end", "number", "row", "long"})
        self.assertGreater(min(whys.values()), 10)


class Kept(unittest.TestCase):

    def test_what_is_handed_in_stays_as_it_was(self):
        program = told_program("f gives any", "  a(any, any): [#0, #1, #0]", "  b([any], any): [on, g*(#0)]",
                               "g gives any", "  a(any): #0")
        things = [[1, ["cat"]], []]
        kept = copy.deepcopy(things)
        answer = run(program, "f", things)
        told_then = copy.deepcopy(answer)
        self.assertEqual(things, kept)
        things[0][1].append(3)
        things.clear()
        self.assertEqual(answer, told_then)

    def test_what_is_told_shares_no_list(self):
        for term in ("#0", "[#0, #0]", "g*(#0)", "(#0 is any ? #0 : 1)", "[[], []]", "g(#0)"):
            program = told_program("f gives any", f"  a(any): {term}", "g gives any", "  a(any): #0")
            thing = [[1], [2]]
            answer = run(program, "f", [thing])[1]
            lists, found = [thing, answer], []
            while lists:
                one = lists.pop()
                found.append(one)
                lists += [part for part in one if isinstance(part, list)]
            self.assertEqual(len({id(one) for one in found}), len(found), term)

    def test_what_is_told_may_be_changed(self):
        program = told_program("f gives any", "  a(any): [1, [2]]")
        first = run(program, "f", [0])
        first[1][1].clear()
        first[1].append(first[1])
        self.assertEqual(run(program, "f", [0]), ("thing", [1, [2]]))

    def test_runs_have_no_bearing_on_one_another(self):
        program = told_program("f gives any", "  z(0): 0", "  n(1..): f((#0 - 1))")
        for _ in range(30):
            self.assertEqual(run(program, "f", [10]), ("thing", 0))
            self.assertEqual(run(program, "f", [10], 3), LONG)
            self.assertEqual(run(program, "f", ["cat"]), ("none", "f", 0))

    def test_runs_change_nothing_of_what_is_told(self):
        for number in range(30):
            program = some_program(number)
            kept = repr((flaws(program), program.functions()))
            for name, result, bodies in program.functions():
                run(program, name, [[1, ["cat"]] for _ in bodies[0][1]])
            self.assertEqual(repr((flaws(program), program.functions())), kept)

    def test_webs_of_the_same_names_by_turns(self):
        tuples = [("x", []), ("y", []), ("z", ["x", "y"])], [("x", []), ("y", ["x"]), ("z", ["y"])]
        functions = [("f", ANY, [("b", (rough(["x"]),), ("whole", 1)), ("a", (rough(["y"]),), ("whole", 2))])]
        both, chain = [Program(Web(told), functions) for told in tuples]
        for _ in range(2):
            self.assertEqual(run(both, "f", ["z"]), ("quarrel", "f", "b", "a"))
            self.assertEqual(run(chain, "f", ["z"]), ("thing", 2))

    def test_programs_of_the_same_names_by_turns(self):
        one = told_program("f gives any", "  a(cat): 1", "  b(pet): 2")
        other = told_program("f gives any", "  a(pet): on", "  b(wild): 2")
        for _ in range(2):
            self.assertEqual(run(one, "f", ["cat"]), ("thing", 1))
            self.assertEqual(run(other, "f", ["cat"]), ("quarrel", "f", "a", "b"))
            self.assertEqual(run(other, "f", ["dog"]), ("end", "f", "a"))

    def test_terms_of_some_more_than_six_in_one_another(self):
        term = ("part", 0)
        for _ in range(12):
            term = ("sum", term, ("whole", 1))
        program = Program(pets(), [("f", ANY, [("z", (kind("0"),), term), ("n", (kind("1.."),), (
            "sum", ("call", "f", (("less", ("part", 0), ("whole", 1)),)), term))])])
        self.assertEqual(run(program, "f", [12]), ("thing", 13 * 12 + 12 * 13 // 2))


if __name__ == "__main__":
    unittest.main()
