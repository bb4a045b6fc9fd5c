"""programs: [28], [29], and [2] of programs."""

import copy
import itertools
import unittest

from fitmost.errors import Alike, FitError, NoName, NoPlaces, NoTerm, Taken
from fitmost.programs import Program
from fitmost.webs import Web
from samples import ANY, NONE, PETS, kind, pets

WEB = pets()
CAT, DOG, DIGIT, LISTS = kind("cat"), kind("dog"), kind("0..9"), kind("[any]")
ONE = ("whole", 1)
BLANK = ("blank",)
PART = ("part", 0)

# A term of each of the eleven sorts, for a body of one place, where f has one place and g two.
TERMS = (
    ONE, ("whole", -(10 ** 59)), ("make", "lynx"), BLANK, ("row", ()), ("row", (ONE, BLANK, PART)), PART,
    ("sum", ONE, PART), ("less", PART, ONE), ("call", "f", (PART,)), ("call", "g", (PART, ("row", (PART,)))),
    ("each", "f", ("row", (PART, ONE))), ("on",), ("if", PART, CAT, ("call", "f", (PART,)), ("on",)),
)

# Terms that a body of one place may not have, where f has one place, g two, and there is no h.
NO_TERMS = (
    ("make", "cow"), ("make", "h"), ("make", "f"), ("make", "any"), ("part", 1), ("part", 2), ("part", -1),
    ("part", 10 ** 60), ("part", -(10 ** 60)), ("call", "h", (ONE,)), ("call", "h", ()), ("call", "f", ()),
    ("call", "f", (ONE, ONE)), ("call", "g", (ONE,)), ("call", "g", (ONE, ONE, ONE)), ("call", "g", ()),
    ("call", "cat", (ONE,)), ("each", "h", ONE), ("each", "g", ONE), ("each", "cat", ("row", ())),
)


def deep_within(term):
    """Terms that have a term somewhere within."""
    return [
        ("row", (ONE, term)), ("sum", term, ONE), ("sum", ONE, term), ("less", term, ONE), ("less", ONE, term),
        ("call", "f", (term,)), ("call", "g", (ONE, term)), ("each", "f", term), ("if", term, CAT, ONE, ONE),
        ("if", ONE, CAT, term, ONE), ("if", ONE, CAT, ONE, term),
        ("row", (BLANK, ("sum", ONE, ("call", "g", (("each", "f", ("if", PART, NONE, term, PART)), BLANK))))),
    ]


def with_term(term):
    """Functions f of one place, of which a body has a term, and g of two."""
    return [("f", ANY, [("a", (CAT,), BLANK), ("b", (ANY,), term)]), ("g", ANY, [("c", (ANY, ANY), BLANK)])]


def in_lists(term):
    """A term with lists for all its terms of terms."""
    told = [in_lists(part) if isinstance(part, tuple) and part and part[0] in SORTS else part for part in term]
    if term[0] in ("row", "call"):
        told[-1] = [in_lists(part) for part in term[-1]]
    return tuple(told)


SORTS = ("whole", "make", "blank", "row", "part", "sum", "less", "call", "each", "on", "if")


class Told(unittest.TestCase):

    def test_no_functions(self):
        for functions in ([], ()):
            program = Program(WEB, functions)
            self.assertEqual(program.functions(), [])
            self.assertEqual(program.web().names(), WEB.names())
        self.assertEqual(Program(Web([]), []).web().names(), [])

    def test_one_function(self):
        functions = [("f", DIGIT, [("a", (CAT,), ONE)])]
        program = Program(WEB, functions)
        self.assertEqual(program.functions(), functions)
        self.assertEqual(Program(WEB, tuple(functions)).functions(), functions)

    def test_the_web_is_told_alike(self):
        web = Program(WEB, [("f", DIGIT, [("a", (CAT,), ONE)])]).web()
        self.assertIsInstance(web, Web)
        self.assertEqual(web.names(), [name for name, over in PETS])
        for name, over in PETS:
            self.assertEqual(web.over(name), sorted(set(over)))

    def test_functions_that_call_one_another_and_themselves(self):
        functions = [
            ("f", ANY, [("f", (ANY, CAT, DIGIT), ("call", "g", (("part", 2),))), ("g", (ANY, CAT, ANY), ("on",))]),
            ("g", NONE, [("b", (ANY,), ("each", "g", ("row", (("call", "f", (PART, PART, PART)),))))]),
            ("cat", CAT, [("b", (ANY,), ("make", "cat")), ("a", (LISTS,), ("call", "g", (("call", "cat", (PART,)),)))]),
        ]
        self.assertEqual(Program(WEB, functions).functions(), functions)

    def test_terms_of_all_sorts(self):
        self.assertEqual({term[0] for term in TERMS}, set(SORTS))
        for term in TERMS:
            for told in [term] + deep_within(term):
                functions = with_term(told)
                self.assertEqual(Program(WEB, functions).functions(), functions)

    def test_terms_as_lists_are_told_as_tuples(self):
        for term in TERMS:
            for told in [term] + deep_within(term):
                lists = in_lists(told)
                handed = [(name, result, tuple((body, list(row), lists if row == (ANY,) else term)
                                               for body, row, term in bodies))
                          for name, result, bodies in with_term(told)]
                program = Program(WEB, handed)
                self.assertEqual(program.functions(), with_term(told))
                self.check_form(program.functions())
        self.assertNotEqual(in_lists(("row", (ONE, ("row", ())))), ("row", (ONE, ("row", ()))))

    def check_form(self, functions):
        """That functions are made of lists and tuples, as told."""
        self.assertIs(type(functions), list)
        for function in functions:
            self.assertEqual([type(part) for part in (function, *function)], [tuple, str, tuple, list])
            for body in function[2]:
                self.assertEqual([type(part) for part in (body, *body)], [tuple, str, tuple, tuple])
                self.assertNotIn("[", repr(body))

    def test_three_places(self):
        row = (CAT, ANY, NONE)
        for number in range(3):
            functions = [("f", ANY, [("a", row, ("part", number))])]
            self.assertEqual(Program(WEB, functions).functions(), functions)
        for number in (3, -1):
            with self.assertRaises(NoTerm):
                Program(WEB, [("f", ANY, [("a", row, ("part", number))])])

    def test_terms_of_some_more_than_forty_are_let_by(self):
        term = ("row", (ONE,) * 60)
        for _ in range(8):
            term = ("row", (term,))
        functions = [("f", ANY, [("a", (ANY,), term)])]
        self.assertEqual(Program(WEB, functions).functions(), functions)

    def test_names_of_bodies_and_functions_and_kinds_have_no_bearing_on_one_another(self):
        functions = [("cat", ANY, [("cat", (ANY,), BLANK), ("f", (CAT,), BLANK)]),
                     ("f", ANY, [("cat", (ANY,), BLANK), ("f", (CAT,), BLANK)])]
        self.assertEqual(Program(WEB, functions).functions(), functions)


NO_NAME = [("F", ANY, [("a", (ANY,), BLANK)])]
TWICE = [("x", ANY, [("a", (ANY,), BLANK)]), ("x", ANY, [("a", (ANY,), BLANK)])]
NO_BODY = [("y", ANY, [])]
BODY_NO_NAME = [("p", ANY, [("a", (ANY,), BLANK), ("on", (CAT,), BLANK)])]
BODY_TWICE = [("q", ANY, [("a", (ANY,), BLANK), ("a", (CAT,), BLANK)])]
NO_PLACES = [("r", ANY, [("a", (), BLANK)])]
ALIKE = [("s", ANY, [("a", (CAT,), ONE), ("b", (DOG,), ONE), ("c", (CAT,), BLANK)])]
NO_TERM = [("t", ANY, [("a", (ANY,), BLANK), ("b", (CAT,), ("part", 1))])]
GOOD = [("z", ANY, [("a", (ANY,), BLANK)])]


class Refused(unittest.TestCase):

    def refused(self, wanted, functions):
        """What is refused with a class, none under it."""
        for told in (functions, tuple((name, result, tuple(bodies)) for name, result, bodies in functions)):
            with self.assertRaises(FitError) as caught:
                Program(WEB, told)
            self.assertIs(type(caught.exception), wanted, functions)
        return caught.exception

    def test_function_names_that_are_none(self):
        for name in ("", "any", "none", "blank", "new", "on", "F", "abcdefghi", "a b", "a1", None, 3, b"f", (), []):
            self.refused(NoName, [(name, ANY, [("a", (ANY,), BLANK)])])
            self.refused(NoName, GOOD + [(name, ANY, [("a", (ANY,), BLANK)])])
        self.assertEqual(len(Program(WEB, [("abcdefgh", ANY, [("a", (ANY,), BLANK)])]).functions()), 1)

    def test_function_names_told_twice(self):
        self.refused(Taken, TWICE)
        self.refused(Taken, GOOD + GOOD)
        self.refused(Taken, GOOD + [("f", ANY, [("a", (ANY,), ONE)])] + GOOD)

    def test_functions_without_bodies(self):
        self.refused(NoPlaces, NO_BODY)
        self.refused(NoPlaces, GOOD + NO_BODY)

    def test_bodies_as_they_are_looked_over(self):
        self.refused(NoName, BODY_NO_NAME)
        self.refused(Taken, BODY_TWICE)
        self.refused(NoPlaces, NO_PLACES)
        self.refused(NoPlaces, [("f", ANY, [("a", (ANY,) * 4, BLANK)])])
        self.refused(NoPlaces, [("f", ANY, [("a", (ANY, ANY), BLANK), ("b", (ANY,), BLANK)])])
        refusal = self.refused(Alike, ALIKE)
        self.assertEqual((refusal.one, refusal.other), ("a", "c"))
        # Unlike terms don't tell rows apart, nor lists from tuples.
        self.refused(Alike, [("f", ANY, [("a", (ANY,), BLANK), ("b", [ANY], ONE)])])

    def test_terms_by_themselves_and_deep_within_others(self):
        for term in NO_TERMS:
            for told in [term] + deep_within(term):
                for lists in (told, in_lists(told)):
                    refusal = self.refused(NoTerm, with_term(lists))
                    self.assertEqual((refusal.function, refusal.body), ("f", "b"))

    def test_which_body_is_told(self):
        bad, good = ("make", "cow"), ("make", "cat")
        rows = [(function, body) for function in "pqr" for body in "ba"]
        for bads in itertools.product((True, False), repeat=6):
            terms = {row: bad if is_bad else good for row, is_bad in zip(rows, bads)}
            functions = [(function, ANY, [("b", (CAT,), terms[function, "b"]), ("a", (ANY,), terms[function, "a"])])
                         for function in "pqr"]
            if any(bads):
                refusal = self.refused(NoTerm, functions)
                self.assertEqual((refusal.function, refusal.body), rows[bads.index(True)])
            else:
                self.assertEqual(Program(WEB, functions).functions(), functions)

    def test_a_part_is_looked_at_by_the_places_of_its_own_function(self):
        pair = ("g", ANY, [("c", (ANY, ANY), ("part", 1))])
        Program(WEB, [pair])
        refusal = self.refused(NoTerm, [pair, ("f", ANY, [("a", (ANY,), ("part", 1))])])
        self.assertEqual((refusal.function, refusal.body), ("f", "a"))

    def test_calls_of_functions_that_stand_later(self):
        functions = [("f", ANY, [("a", (ANY,), ("call", "g", (ONE, ONE)))]), ("g", ANY, [("a", (ANY, ANY), BLANK)])]
        Program(WEB, functions)
        Program(WEB, functions[::-1])
        self.refused(NoTerm, functions[:1])

    def test_two_at_once_in_whatever_order(self):
        # Names are looked for in all functions; then each function by itself; terms behind all that.
        first = [(NO_NAME, NoName), (TWICE, Taken)]
        by_turns = [(NO_BODY, NoPlaces), (BODY_NO_NAME, NoName), (BODY_TWICE, Taken), (NO_PLACES, NoPlaces),
                    (ALIKE, Alike)]
        last = [(NO_TERM, NoTerm)]
        for (one, due), (other, later) in itertools.combinations(first + by_turns + last, 2):
            for functions, sooner in ((one + other, due), (other + one, later)):
                if (one, due) in first or (other, later) in last:
                    sooner = due
                self.refused(sooner, functions)
                self.refused(sooner, GOOD + functions)

    def test_two_at_once_in_one_function(self):
        def bodies(*told):
            return [("f", ANY, list(told))]
        none_named, twice = ("Z", (DOG,), BLANK), [("m", (DIGIT,), BLANK), ("m", (LISTS,), BLANK)]
        narrow, rows = ("n", (ANY, ANY), BLANK), [("k", (CAT,), BLANK), ("l", (CAT,), BLANK)]
        bad = ("o", (NONE,), ("part", 7))
        due = [([none_named], NoName), (twice, Taken), ([narrow], NoPlaces), (rows, Alike), ([bad], NoTerm)]
        for (one, sooner), (other, _) in itertools.combinations(due, 2):
            start = [("a", (ANY,), BLANK)]
            self.refused(sooner, bodies(*start, *one, *other))
            self.refused(sooner, bodies(*start, *other, *one))

    def test_a_term_of_a_function_that_is_refused_is_not_looked_at(self):
        self.refused(NoPlaces, NO_TERM + NO_BODY)
        self.refused(Alike, NO_TERM + ALIKE)
        # A call of a function without bodies.
        self.refused(NoPlaces, [("f", ANY, [("a", (ANY,), ("call", "g", (ONE,)))]), ("g", ANY, [])])


class Kept(unittest.TestCase):

    def handed(self):
        """Functions with lists wherever there may be lists."""
        return [
            ["f", DIGIT, [("a", [CAT, ANY], ("row", [ONE, ("row", [BLANK, ("call", "f", [ONE, ("row", [])])])])),
                          ("b", [ANY, ANY], ("call", "f", [ONE, ("each", "g", ("row", [BLANK]))]))]],
            ["g", ANY, [("c", [ANY], ("if", ("row", [ONE]), CAT, ("row", [ONE]), ("sum", ("row", [ONE]), ONE)))]],
        ]

    def test_what_is_handed_in_stays_as_it_was(self):
        functions = [tuple(function) for function in self.handed()]
        kept = copy.deepcopy(functions)
        Program(WEB, functions).functions()
        self.assertEqual(functions, kept)

    def test_what_is_handed_in_may_be_changed_afterwards(self):
        handed = self.handed()
        program = Program(WEB, handed)
        kept = copy.deepcopy(program.functions())
        self.spoil(handed)
        self.assertEqual(program.functions(), kept)

    def spoil(self, told):
        """Empty all lists, however deep."""
        for part in told:
            if isinstance(part, (list, tuple)):
                self.spoil(part)
        if isinstance(told, list):
            told.clear()

    def test_what_is_told_may_be_changed(self):
        program = Program(WEB, self.handed())
        first = program.functions()
        kept = copy.deepcopy(first)
        self.spoil(first)
        self.assertEqual(first, [])
        second = program.functions()
        self.assertEqual(second, kept)
        program.functions()[0][2].clear()
        self.assertEqual(second, kept)
        program.web().names().append("cow")
        self.assertEqual(program.web().names(), WEB.names())

    def test_webs_of_the_same_names_told_by_turns(self):
        tuples = [("x", []), ("y", []), ("z", ["x", "y"])], [("x", []), ("y", ["x"]), ("z", ["y"])]
        functions = [("f", ANY, [("a", (ANY,), ("make", "z"))])]
        both, chain = [Program(Web(told), functions) for told in tuples]
        for _ in range(2):
            self.assertEqual((both.web().over("z"), chain.web().over("z")), (["x", "y"], ["y"]))
            self.assertEqual((both.web().beneath("y", "x"), chain.web().beneath("y", "x")), (False, True))
        with self.assertRaises(NoTerm):
            Program(Web([]), functions)
        self.assertEqual(both.functions(), functions)

    def test_programs_of_the_same_names_told_by_turns(self):
        one = Program(WEB, with_term(ONE))
        other = Program(WEB, [("f", NONE, [("b", (DOG, DOG), BLANK), ("a", (ANY, ANY), ("on",))])])
        for _ in range(2):
            self.assertEqual(one.functions(), with_term(ONE))
            self.assertEqual(other.functions()[0][2][0], ("b", (DOG, DOG), BLANK))


if __name__ == "__main__":
    unittest.main()
