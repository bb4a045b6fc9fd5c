"""errors: each class straight under FitError, and the fields."""

import unittest

from fitmost import errors

PLAIN = ("NoName", "Taken", "NoKind", "NoText", "NoPlaces", "NoBody", "TooMany", "Held")
WITH_FIELDS = ("Ring", "Alike", "NoTerm", "NoLine")


class Classes(unittest.TestCase):

    def test_fit_error_is_straight_under_value_error(self):
        self.assertEqual(errors.FitError.__bases__, (ValueError,))

    def test_each_class_is_straight_under_fit_error(self):
        for name in PLAIN + WITH_FIELDS:
            with self.subTest(name):
                self.assertEqual(getattr(errors, name).__bases__, (errors.FitError,))

    def test_there_is_no_other_class(self):
        told = [name for name in vars(errors) if isinstance(getattr(errors, name), type)]
        self.assertEqual(sorted(told), sorted(PLAIN + WITH_FIELDS + ("FitError",)))

    def test_none_is_taken_for_another_one(self):
        for name in PLAIN:
            with self.subTest(name):
                with self.assertRaises(errors.FitError) as caught:
                    raise getattr(errors, name)("words")
                others = [other for other in PLAIN + WITH_FIELDS if other != name]
                for other in others:
                    self.assertNotIsInstance(caught.exception, getattr(errors, other))


class Fields(unittest.TestCase):

    def test_ring(self):
        self.assertEqual(errors.Ring(["a", "b"]).ring, ["a", "b"])

    def test_ring_is_not_held_on_to(self):
        names = ["a", "b"]
        error = errors.Ring(names)
        names.append("c")
        self.assertEqual(error.ring, ["a", "b"])

    def test_alike(self):
        error = errors.Alike("f", "g")
        self.assertEqual((error.one, error.other), ("f", "g"))

    def test_no_term(self):
        error = errors.NoTerm("f", "g")
        self.assertEqual((error.function, error.body), ("f", "g"))

    def test_no_line(self):
        self.assertEqual(errors.NoLine(3).line, 3)


if __name__ == "__main__":
    unittest.main()
