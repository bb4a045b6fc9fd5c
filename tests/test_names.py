"""names: [5]."""

import unittest

from fitmost.names import is_name

LETTERS = "abcdefghijklmnopqrstuvwxyz"
WORDS = ("any", "none", "blank", "new", "on")
# A great letter, figures, a blank, line ends, signs beside the letters, and letters and figures of other scripts.
OTHER_SIGNS = "AZ09 \n\t\r_-.,'`{@[/~\x00\u00e4\u00df\u0131\u0430\u0661\uff41"


class IsName(unittest.TestCase):

    def check(self, thing, wanted):
        with self.subTest(repr(thing)):
            self.assertIs(is_name(thing), wanted)

    def test_each_letter_and_each_length(self):
        for letter in LETTERS:
            for length in range(1, 9):
                self.check(letter * length, True)

    def test_no_letter_and_too_many(self):
        for text in ("", "abcdefghi", "aaaaaaaaa", LETTERS, "a" * 2000):
            self.check(text, False)

    def test_eight_unlike_letters(self):
        for text in ("abcdefgh", "stuvwxyz", "zyxwvuts"):
            self.check(text, True)

    def test_words_that_are_no_names(self):
        for word in WORDS:
            self.check(word, False)

    def test_words_near_them(self):
        for word in WORDS:
            for near in (word + "s", "s" + word, word[:-1], word[1:], word[::-1], word + word):
                if near not in WORDS and len(near) <= 8:
                    self.check(near, True)
            for near in (word.upper(), word.title(), " " + word, word + " ", word + "\n"):
                self.check(near, False)
        for near in ("one", "no", "an", "newer", "blanks", "anyone", "nones", "is", "gives", "true", "def"):
            self.check(near, True)

    def test_other_signs_wherever_they_stand(self):
        for sign in OTHER_SIGNS:
            for text in (sign, sign + "cat", "c" + sign + "at", "cat" + sign, "catcatc" + sign, sign * 3):
                self.check(text, False)

    def test_things_that_are_no_texts(self):
        things = (0, 1, -5, 10 ** 60, True, False, None, [], ["cat"], (), ("cat",), {}, {"cat": "cat"}, {"cat"},
                  b"cat", 1.5, object(), str, is_name)
        for thing in things:
            self.check(thing, False)


if __name__ == "__main__":
    unittest.main()
