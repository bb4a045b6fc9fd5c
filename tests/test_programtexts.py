"""programtexts: [35], and [2] of programs' texts."""

import copy
import itertools
import unittest

from fitmost.errors import Alike, FitError, NoKind, NoLine, NoPlaces, NoTerm, Ring, Taken
from fitmost.lookers import flaws, kind_in
from fitmost.programs import Program
from fitmost.programtexts import read_program, show_program
from fitmost.runs import run
from fitmost.webs import Web
from samples import ANY, NONE, PETS, PETS_ROW, kind, pets, rough, sample_things, some_functions, some_program

WEB = pets()
ONE = ("whole", 1)

TEXT = PETS_ROW + """
f gives ..|[any]
  num(..): (#0 + 1)
  lst([any]): f*(#0)
g gives any
  a(any, cat|1..9): (#0 is cat|1..9 ? f(#0) : [1, blank])
  b(cat, any): on
  c(none, any): new cat"""

FUNCTIONS = [
    ("f", kind("..|[any]"), [
        ("num", (kind(".."),), ("sum", ("part", 0), ONE)),
        ("lst", (kind("[any]"),), ("each", "f", ("part", 0)))]),
    ("g", ANY, [
        ("a", (ANY, kind("cat|1..9")), ("if", ("part", 0), kind("cat|1..9"), ("call", "f", (("part", 0),)),
                                        ("row", (ONE, ("blank",))))),
        ("b", (kind("cat"), ANY), ("on",)),
        ("c", (NONE, ANY), ("make", "cat"))]),
]


def whole(program):
    """All that a program tells of itself."""
    web = program.web()
    return [web.names(), [web.over(name) for name in web.names()], program.functions()]


class Shown(unittest.TestCase):

    def test_no_functions(self):
        self.assertEqual(show_program(Program(WEB, [])), PETS_ROW)
        self.assertEqual(show_program(Program(Web([]), [])), "")
        program = read_program("")
        self.assertIsInstance(program, Program)
        self.assertEqual(whole(program), [[], [], []])
        self.assertEqual(whole(read_program(PETS_ROW)), whole(Program(WEB, [])))

    def test_several_functions(self):
        self.assertEqual(show_program(Program(WEB, FUNCTIONS)), TEXT)
        self.assertEqual(whole(read_program(TEXT)), whole(Program(WEB, FUNCTIONS)))
        self.assertEqual(show_program(read_program(TEXT)), TEXT)

    def test_a_web_without_kinds(self):
        text = "\nf gives 1\n  a(any, 2, [none]): 1"
        program = read_program(text)
        self.assertEqual(whole(program), [[], [], [("f", kind("1"), [("a", (ANY, kind("2"), kind("[none]")), ONE)])]])
        self.assertEqual(show_program(program), text)

    def test_the_web_as_it_was_told(self):
        web = Web([("b", ["a", "c", "a"]), ("c", []), ("a", [])])
        self.assertEqual(show_program(Program(web, [])), "b: a, c; c; a")

    def test_read_again_many_programs(self):
        for number in range(300):
            program = some_program(number)
            text = show_program(program)
            self.assertEqual(whole(read_program(text)), whole(program))
            self.assertEqual(show_program(read_program(text)), text)

    def test_kinds_and_webs_in_any_form(self):
        text = "b: c, a, a; c; a: c\nf gives 4..9|a|1..3|b|c\n  x(none|[c]|[a], [b]|any): (1 is b|a ? 1 : 1)"
        program = read_program(text)
        self.assertEqual(
            show_program(program), "b: a, c; c; a: c\nf gives c|1..9\n  x([c], any): (1 is a ? 1 : 1)")

    def test_a_program_read_of_its_text_is_as_the_first_one(self):
        things = sample_things()[::17]
        for number in range(60):
            program = some_program(number)
            again = read_program(show_program(program))
            self.assertEqual(flaws(again), flaws(program))
            for name, result, bodies in program.functions():
                for call in itertools.islice(itertools.product(things, repeat=len(bodies[0][1])), 12):
                    self.assertEqual(run(again, name, call), run(program, name, call))
                for body, row, term in bodies:
                    self.assertEqual(kind_in(again, name, body, ()), kind_in(program, name, body, ()))

    def test_numbers_of_more_than_sixty_figures_are_shown(self):
        program = Program(Web([]), [("f", rough(spans=[((10 ** 60,), ())]), [("a", (ANY,), ("whole", 10 ** 60))])])
        self.assertEqual(show_program(program), f"\nf gives {10 ** 60}..\n  a(any): {10 ** 60}")


class Refused(unittest.TestCase):

    def refused(self, wanted, text):
        """What is refused with a class, none under it."""
        with self.assertRaises(FitError) as caught:
            read_program(text)
        self.assertIs(type(caught.exception), wanted, text)
        return caught.exception

    def no_line(self, number, text):
        told = self.refused(NoLine, text).line
        self.assertEqual((told, type(told)), (number, int), text)

    def test_the_webs_row(self):
        for row in ("Pet", "any", "pet;cat", "pet; ", "pet: ", "pet cat", "pet; cat: pet,wild", " ", "; ",
                    "f gives any", "  a(any): 1", "pet: any", "pet;  cat"):
            self.no_line(0, row)
            self.no_line(0, row + "\nf gives any\n  a(any): 1")
            self.no_line(0, row + "\nnonsense")

    def test_the_webs_refusals_go_ahead_of_all_rows_behind_it(self):
        for rows in ("", "\nf gives any\n  a(any): 1", "\nnonsense", "\n  a(any): 1", "\nf gives any", "\nf gives cow"):
            self.refused(Taken, "pet; pet" + rows)
            self.refused(NoKind, "pet: cow" + rows)
            self.assertEqual(sorted(self.refused(Ring, "pet: cat; cat: pet" + rows).ring), ["cat", "pet"])
            self.refused(Taken, "pet: cow; pet: pet" + rows)
            self.refused(NoKind, "pet: pet, cow" + rows)

    def test_functions_rows(self):
        for row in ("", "f", "f gives", "f gives ", "gives any", " gives any", "f  gives any", "f gives  any",
                    "f gives any ", " f gives any", "f givesany", "fgives any", "f Gives any", "f gives any|",
                    "f gives Cat", "f gives 3..3", "f gives any gives any", "f gives [[[[1]]]]", "f gives cat, dog",
                    "f gives any:", "f: any", "f gives any\t", "f() gives any", "\tf gives any"):
            self.no_line(1, PETS_ROW + "\n" + row)
            self.no_line(1, PETS_ROW + "\n" + row + "\n  a(any): 1")
            self.no_line(3, PETS_ROW + "\nf gives any\n  a(any): 1\n" + row)
            self.no_line(3, PETS_ROW + "\nf gives any\n  a(any): 1\n" + row + "\nnonsense")

    def test_words_that_are_no_names(self):
        for word in ("any", "none", "blank", "new", "on", "F", "abcdefghi", "f1", "", "a-b"):
            self.no_line(1, PETS_ROW + f"\n{word} gives any")
            self.no_line(2, PETS_ROW + f"\nf gives any\n  {word}(any): 1")
            self.no_line(2, PETS_ROW + f"\nf gives any\n  a(any): new {word}")
            self.no_line(2, PETS_ROW + f"\nf gives any\n  a(any): {word}*(1)")

    def test_bodies_rows(self):
        for row in ("  ", "  a", "  a(any)", "  a(any):", "  a(any): ", "  a(any):1", "  a(any):  1", "  a(any) : 1",
                    "  a (any): 1", "  a( any): 1", "  a(any ): 1", "  a(any): 1 ", " a(any): 1", "   a(any): 1",
                    "a(any): 1", "  a any: 1", "  a: 1", "  a): 1", "  a(any: 1", "  (any): 1", "  a((any)): 1",
                    "  a(any,any): 1", "  a(any,  any): 1", "  a(any , any): 1", "  a(, any): 1", "  a(any, ): 1",
                    "  a(,): 1", "  a( ): 1", "  a(Any): 1", "  a(any): 01", "  a(any): cat", "  a(any): 1, 2",
                    "  a(any): (1)", "  a(any): [", "  a(3..3): 1", "  a([[[[any]]]]): 1", "  a[any]: 1",
                    "  a(any); 1", "  a(any): a(any): 1", "  a(any): (1 is cat| ? 1 : 1)", "\ta(any): 1"):
            self.no_line(2, PETS_ROW + "\nf gives any\n" + row)
            self.no_line(2, PETS_ROW + "\nf gives any\n" + row + "\nf gives cow")
            self.no_line(3, PETS_ROW + "\nf gives any\n  a(any): 1\n" + row)

    def test_terms_of_too_many_terms(self):
        head = PETS_ROW + "\nf gives any\n  a(any): "
        read_program(head + "[" + ", ".join(["1"] * 39) + "]")
        self.no_line(2, head + "[" + ", ".join(["1"] * 40) + "]")
        read_program(head + "[[[[[[]]]]]]")
        self.no_line(2, head + "[[[[[[[]]]]]]]")

    def test_kinds_with_names_that_the_web_does_not_have(self):
        for rows, number in (("f gives cow", 1), ("f gives 1|[cow]", 1), ("f gives any\n  a(cow): 1", 2),
                             ("f gives any\n  a(any, [[cow]]): 1", 2), ("f gives any\n  a(any): (1 is cow ? 1 : 1)", 2),
                             ("f gives any\n  a(any): [1, (1 is [cow] ? 1 : 1)]", 2),
                             ("f gives any\n  a(any): 1\n  b(cow): 1", 3),
                             ("f gives any\n  a(any): 1\ng gives any|cow", 3)):
            self.no_line(number, PETS_ROW + "\n" + rows)
            self.no_line(number, PETS_ROW + "\n" + rows + "\nnonsense")
            read_program(PETS_ROW + "; cow\n" + rows + ("" if "(" in rows.split("\n")[-1] else "\n  a(any): 1"))
            self.no_line(number, "\n" + rows.replace("any", "1"))

    def test_a_body_ahead_of_any_function(self):
        self.no_line(1, PETS_ROW + "\n  a(any): 1")
        self.no_line(1, PETS_ROW + "\n  a(any): 1\nf gives any\n  a(any): 1")
        self.no_line(1, "\n  a(any): 1")

    def test_a_line_end_behind_the_last_row(self):
        self.no_line(1, PETS_ROW + "\n")
        self.no_line(1, "\n")
        self.no_line(2, "\nf gives any\n")
        self.no_line(3, "\nf gives any\n  a(any): 1\n")
        self.no_line(2, "\nf gives any\n\n  a(any): 1")
        self.no_line(1, "\n\nf gives any\n  a(any): 1")

    def test_the_first_bad_row_is_told(self):
        good = TEXT.split("\n")
        for first in range(len(good)):
            for second in range(first, len(good)):
                rows = list(good)
                rows[first], rows[second] = rows[first] + " ", rows[second] + " "
                self.no_line(first, "\n".join(rows))

    def test_what_is_refused_of_a_program_behind_all_rows(self):
        one = "f gives any\n  a(any): 1"
        for rows, wanted in ((one + "\n" + one, Taken), ("f gives any", NoPlaces), (one + "\ng gives any", NoPlaces),
                             ("g gives any\n" + one, NoPlaces), ("f gives any\n  a(): 1", NoPlaces),
                             ("f gives any\n  a(1, 2, 3, 4): 1", NoPlaces), (one + "\n  b(1, 1): 1", NoPlaces),
                             (one + "\n  a(1): 1", Taken), (one + "\n  b(none|any): 1", Alike),
                             ("f gives any\n  a(any): new cow", NoTerm), ("f gives any\n  a(any): #1", NoTerm),
                             ("f gives any\n  a(any): #-1", NoTerm), ("f gives any\n  a(any): g(1)", NoTerm),
                             ("f gives any\n  a(any): f()", NoTerm), ("f gives any\n  a(any): g*(1)", NoTerm)):
            self.refused(wanted, PETS_ROW + "\n" + rows)
            # A row that is not written so goes ahead.
            self.no_line(1 + len(rows.split("\n")), PETS_ROW + "\n" + rows + "\nh gives cow")
        refusal = self.refused(NoTerm, PETS_ROW + "\nf gives any\n  a(any): 1\n  b(1): [f(1, 1)]\n  c(2): #1")
        self.assertEqual((refusal.function, refusal.body), ("f", "b"))
        refusal = self.refused(Alike, PETS_ROW + "\nf gives any\n  a(1..2): 1\n  b(any): 1\n  c(1|2): 1")
        self.assertEqual((refusal.one, refusal.other), ("a", "c"))

    def test_two_at_once_of_a_program(self):
        self.refused(Taken, PETS_ROW + "\nf gives any\nf gives any")
        self.refused(NoPlaces, PETS_ROW + "\nf gives any\n  a(any): #3\ng gives any")
        self.refused(Alike, PETS_ROW + "\nf gives any\n  a(any): #3\n  b(any): 1\ng gives any")


class Kept(unittest.TestCase):

    def test_what_is_handed_in_stays_as_it_was(self):
        program = Program(WEB, FUNCTIONS)
        kept = copy.deepcopy(whole(program))
        show_program(program)
        self.assertEqual(whole(program), kept)

    def test_what_is_read_goes_by_its_own(self):
        one, other = read_program(TEXT), read_program(TEXT)
        one.functions().clear()
        one.functions()[0][2].clear()
        self.assertEqual(whole(other), whole(one))
        self.assertEqual(show_program(one), TEXT)

    def test_by_turns(self):
        both = "x; y; z: x, y\nf gives any\n  a(any): (1 is x|y ? 1 : 1)"
        chain = "x; y: x; z: y\nf gives any\n  a(any): (1 is x ? 1 : 1)"
        for _ in range(2):
            self.assertEqual(show_program(read_program(both)), both)
            self.assertEqual(show_program(read_program(chain)), chain)


class Whole(unittest.TestCase):

    def test_the_documents_example(self):
        text = "cat; dog\nf gives any\n  a(any, any): 1\ng gives any\n  a(any): 2\nh gives any\n" \
               "  a(any, any): (#0 is cat|1..9 ? f(#0, [1, blank]) : g*(#1))"
        program = read_program(text)
        self.assertEqual(show_program(program), text)
        self.assertEqual(run(program, "h", ["cat", 1]), ("thing", 1))
        self.assertEqual(run(program, "h", [10, [1, 2]]), ("thing", [2, 2]))
        self.assertEqual(flaws(program), [("h", "a", (2,), ("row", None))])

    def test_functions_told_are_handed_in_again(self):
        for number in range(40):
            program = Program(WEB, some_functions(number))
            again = Program(program.web(), program.functions())
            self.assertEqual(show_program(again), show_program(program))
            self.assertEqual(flaws(again), flaws(program))
        self.assertEqual(whole(Program(Web(PETS), [])), whole(Program(WEB, [])))


if __name__ == "__main__":
    unittest.main()
