"""spans: [9], and [2] of spans."""

import itertools
import random
import unittest

from fitmost.spans import spans_apart, spans_formed, spans_less, spans_met, spans_sum
from samples import plain_has, span, spans_in_one_form

GREAT = 10 ** 60 - 1
ENDS = (None, -2, -1, 0, 1, 3)
ALL = [span(low, high) for low in ENDS for high in ENDS]
WINDOW = range(-8, 9)


def numbers(spans):
    """The numbers of a window that some spans have, and whether they go on below and above it."""
    return [number for number in [-2 * GREAT, *WINDOW, 2 * GREAT] if plain_has(spans, number)]


def many_spans():
    """Lists and tuples of none to eight spans, in any order."""
    source = random.Random(21)
    told = [[], (), ALL[:1], tuple(ALL[7:9])]
    told += [source.choices(ALL, k=source.choice((1, 2, 2, 3, 4, 8))) for _ in range(70)]
    return told + [tuple(spans) for spans in told[4:20]]


class Formed(unittest.TestCase):

    def check(self, spans, wanted):
        with self.subTest(spans):
            self.assertEqual(spans_formed(spans), wanted)
            self.assertEqual(spans_formed(tuple(spans)), wanted)
            self.assertEqual(spans_formed(wanted), wanted)

    def test_of_none(self):
        self.check([], ())

    def test_without_numbers(self):
        self.check([span(1, 0)], ())
        self.check([span(GREAT, -GREAT), span(5, 4), span(9, 1)], ())
        self.check([span(5, 1), span(2, 3)], (span(2, 3),))

    def test_of_one_number(self):
        self.check([span(0, 0)], (span(0, 0),))

    def test_without_ends(self):
        self.check([span()], (span(),))
        self.check([span(None, 3), span(5, None)], (span(None, 3), span(5, None)))
        self.check([span(None, 3), span(4, None)], (span(),))
        self.check([span(5, None), span(2, None), span(7, 8)], (span(2, None),))
        self.check([span(None, 5), span(None, 9), span(7, 8)], (span(None, 9),))
        self.check([span(None, 5), span()], (span(),))

    def test_that_touch_overlap_or_lie_within_one_another(self):
        self.check([span(1, 2), span(3, 4)], (span(1, 4),))
        self.check([span(1, 2), span(4, 5)], (span(1, 2), span(4, 5)))
        self.check([span(1, 5), span(3, 9)], (span(1, 9),))
        self.check([span(1, 9), span(3, 5)], (span(1, 9),))
        self.check([span(1, 9), span(2, 3), span(5, 6), span(11, 12)], (span(1, 9), span(11, 12)))
        self.check([span(-2, -1), span(1, 2), span(0, 0)], (span(-2, 2),))

    def test_in_any_order_and_told_twice(self):
        for spans in itertools.permutations([span(7, 8), span(1, 2), span(None, -3), span(4, 5), span(1, 2)]):
            self.check(list(spans), (span(None, -3), span(1, 2), span(4, 5), span(7, 8)))

    def test_of_sixty_figures(self):
        self.check([span(1, GREAT), span(-GREAT, 0)], (span(-GREAT, GREAT),))
        self.check([span(GREAT, GREAT), span(-GREAT, -GREAT), span(GREAT - 2, GREAT - 2)],
                   (span(-GREAT, -GREAT), span(GREAT - 2, GREAT - 2), span(GREAT, GREAT)))
        self.check([span(GREAT - 1, GREAT), span(GREAT - 3, GREAT - 2)], (span(GREAT - 3, GREAT),))
        self.check([span(-GREAT, 1 - GREAT), span(3 - GREAT, None)], (span(-GREAT, 1 - GREAT), span(3 - GREAT, None)))

    def test_of_every_two(self):
        for spans in itertools.product(ALL, repeat=2):
            told = spans_formed(spans)
            self.assertTrue(spans_in_one_form(told), (spans, told))
            self.assertEqual(numbers(told), numbers(spans), (spans, told))

    def test_the_same_numbers_have_the_same_form(self):
        forms = {}
        for spans in many_spans():
            told = spans_formed(spans)
            self.assertTrue(spans_in_one_form(told))
            self.assertEqual(forms.setdefault(tuple(numbers(spans)), told), told)
        self.assertEqual(len(set(forms.values())), len(forms))


class Met(unittest.TestCase):

    def test_plain(self):
        self.assertEqual(spans_met([span(1, 5)], [span(3, 9)]), (span(3, 5),))
        self.assertEqual(spans_met([span(1, 5)], [span(6, 9)]), ())
        self.assertEqual(spans_met([span(1, 5)], [span(5, None)]), (span(5, 5),))
        self.assertEqual(spans_met([span(None, 5)], [span(3, None)]), (span(3, 5),))
        self.assertEqual(spans_met([span()], (span(GREAT, None), span(None, -GREAT))),
                         (span(None, -GREAT), span(GREAT, None)))
        self.assertEqual(spans_met([span(1, 2), span(3, 4)], [span(2, 3)]), (span(2, 3),))
        self.assertEqual(spans_met([], [span()]), ())

    def test_of_any_two(self):
        for one, other in itertools.product(many_spans(), repeat=2):
            told = spans_met(one, other)
            self.assertTrue(spans_in_one_form(told), (one, other, told))
            self.assertEqual(numbers(told), [number for number in numbers(one) if plain_has(other, number)])


class SumAndLess(unittest.TestCase):

    def test_plain(self):
        self.assertEqual(spans_sum([span(1, 2)], [span(10, 20)]), (span(11, 22),))
        self.assertEqual(spans_less([span(1, 2)], [span(10, 20)]), (span(-19, -8),))
        self.assertEqual(spans_sum([span(0, 0), span(5, 5)], [span(0, 0), span(2, 2)]),
                         (span(0, 0), span(2, 2), span(5, 5), span(7, 7)))
        self.assertEqual(spans_sum([span(0, 0), span(5, 5)], [span(1, 5)]), (span(1, 10),))

    def test_without_ends(self):
        self.assertEqual(spans_sum([span(1, None)], [span(2, 5)]), (span(3, None),))
        self.assertEqual(spans_sum([span(None, 1)], [span(2, 5)]), (span(None, 6),))
        self.assertEqual(spans_sum([span(None, 1)], [span(2, None)]), (span(),))
        self.assertEqual(spans_less([span(1, None)], [span(2, 5)]), (span(-4, None),))
        self.assertEqual(spans_less([span(1, None)], [span(2, None)]), (span(),))
        self.assertEqual(spans_less([span(1, None)], [span(None, 2)]), (span(-1, None),))

    def test_without_numbers(self):
        for empty in ([], (), [span(2, 1)], [span(5, 0), span(GREAT, -GREAT)]):
            for other in ([], [span()], [span(1, 9)], [span(3, 1)]):
                for asked in (spans_sum, spans_less):
                    self.assertEqual((asked(empty, other), asked(other, empty)), ((), ()))
        self.assertEqual(spans_sum([span(5, 0), span(1, 1)], [span(1, 9), span(9, 7)]), (span(2, 10),))

    def test_of_sixty_figures(self):
        ends = [span(GREAT, GREAT), span(-GREAT, -GREAT)]
        wanted = (span(-2 * GREAT, -2 * GREAT), span(0, 0), span(2 * GREAT, 2 * GREAT))
        self.assertEqual(spans_sum(ends, ends), wanted)
        self.assertEqual(spans_less(ends, ends), wanted)
        self.assertEqual(spans_sum(wanted, wanted)[-1], span(4 * GREAT, 4 * GREAT))

    def test_of_any_two(self):
        wide = range(-40, 41)
        told = many_spans()[::2]
        have = [[number for number in wide if plain_has(spans, number)] for spans in told]
        for (one, ones), (other, others) in itertools.product(zip(told, have), repeat=2):
            for asked, reckoned in ((spans_sum, {a + b for a in ones for b in others}),
                                    (spans_less, {a - b for a in ones for b in others})):
                spans = asked(one, other)
                self.assertTrue(spans_in_one_form(spans), (asked, one, other, spans))
                for number in range(-10, 11):
                    self.assertEqual(plain_has(spans, number), number in reckoned, (asked, one, other, spans))


class Apart(unittest.TestCase):

    def check(self, one, other, wanted):
        told = spans_apart(one, other)
        self.assertIs(type(told), list)
        self.assertEqual(len(told), 1 if wanted else 0, (one, other, told))
        for number in told:
            self.assertIs(type(number), int)
            self.assertTrue(plain_has(one, number) and not plain_has(other, number), (one, other, told))

    def test_plain(self):
        self.check([], [], False)
        self.check([], [span()], False)
        self.check([span()], [], True)
        self.check([span()], [span()], False)
        self.check([span(2, 1)], [], False)
        self.check([span(1, 9)], [span(1, 4), span(6, 9)], True)
        self.check([span(1, 9)], [span(6, 9), span(1, 5)], False)
        self.check([span()], [span(None, 0), span(2, None)], True)
        self.check([span()], [span(None, 0), span(1, None)], False)
        self.check([span()], [span(None, GREAT)], True)
        self.check([span()], [span(-GREAT, GREAT)], True)
        self.check([span(3, 3)], (span(5, 1), span(None, 2), span(4, None)), True)
        self.check([span(-GREAT, GREAT)], [span(1 - GREAT, GREAT)], True)
        self.check([span(-GREAT, GREAT)], [span(-GREAT, GREAT - 1)], True)
        self.check([span(-GREAT, GREAT)], [span(-GREAT, -1), span(1, GREAT)], True)
        self.check([span(-GREAT, GREAT)], [span(-GREAT, -1), span(0, GREAT)], False)

    def test_of_any_two(self):
        for one, other in itertools.product(many_spans(), repeat=2):
            self.check(one, other, any(not plain_has(other, number) for number in numbers(one)))


class Kept(unittest.TestCase):

    def test_what_is_handed_in_stays_as_it_was(self):
        one, other = [span(5, 9), span(3, 1), span(1, 4)], [span(None, 2), span(None, 2)]
        spans_formed(one)
        for asked in (spans_met, spans_sum, spans_less, spans_apart):
            asked(one, other)
            asked(other, one)
        self.assertEqual(one, [span(5, 9), span(3, 1), span(1, 4)])
        self.assertEqual(other, [span(None, 2), span(None, 2)])

    def test_what_is_told_may_be_changed(self):
        for one, other in (([span(1, 2)], [span(2, 3)]), ([span(1, 2)], [span(1, 2)])):
            told = spans_apart(one, other)
            kept = list(told)
            told.append(7)
            self.assertEqual(spans_apart(one, other), kept)


if __name__ == "__main__":
    unittest.main()
