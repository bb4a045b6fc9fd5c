"""numbertexts: [13] of numbers."""

import unittest

from fitmost.errors import NoText
from fitmost.numbertexts import read_number, show_number

SIXTY = "123456789012345678901234567890123456789012345678901234567890"
WRITTEN = ["0", "1", "9", "10", "42", "100", "9" * 59, "9" * 60, "1" + "0" * 59, SIXTY]
REFUSED = [
    "", "-", "--1", "+", "+1", "+0", "-0", "00", "01", "-01", "-00", "000", "0" * 60, "0" + "9" * 59,
    " ", " 1", "1 ", "1 2", "- 1", "-1 ", "\n", "1\n", "\n1", "-1\n", "1\n2", "\t1",
    "1_0", "_1", "1_", "1.0", "1.", ".1", ".", "1..2", "1e3", "0x1", "0b1", "a", "1a", "a1", "any", "none", "blank",
    "1-", "1-2", "-1-", "1,0", "'1'", "[1]", "~", "/", ":", "\u0661", "\u00b2", "1\u0661", "\uff11",
    "1" * 61, "-" + "1" * 61, "1" + "0" * 60, "9" * 2000, "0" + "1" * 60,
]


class Read(unittest.TestCase):

    def test_what_is_written_so(self):
        for text in WRITTEN:
            with self.subTest(text):
                number = read_number(text)
                self.assertIs(type(number), int)
                self.assertEqual(number, int(text))
                if text != "0":
                    self.assertEqual(read_number("-" + text), -int(text))

    def test_what_is_not_written_so(self):
        for text in REFUSED:
            with self.subTest(repr(text)), self.assertRaises(NoText):
                read_number(text)

    def test_sixty_figures_behind_a_sign(self):
        self.assertEqual(read_number("-" + "9" * 60), 1 - 10 ** 60)

    def test_other_signs_wherever_they_stand(self):
        for code in [*range(128), 0xb2, 0xbd, 0x661, 0x2003, 0x2460, 0xff11]:
            sign = chr(code)
            if sign in "0123456789-":
                continue
            for text in (sign, sign + "12", "1" + sign + "2", "12" + sign, "-" + sign + "1", "-1" + sign):
                with self.subTest(repr(text)), self.assertRaises(NoText):
                    read_number(text)


class Show(unittest.TestCase):

    def test_plain(self):
        for number in [*range(-1200, 1200), 10 ** 18, 10 ** 59, 10 ** 60 - 1, int(SIXTY)]:
            self.assertEqual(show_number(number), str(number))
            self.assertEqual(show_number(-number), str(-number))

    def test_more_figures(self):
        for figures in (61, 62, 119, 120, 121, 180, 181, 400):
            for number in (10 ** (figures - 1), 10 ** figures - 1, 10 ** (figures - 1) + 7, 2 * 10 ** (figures - 1)):
                self.assertEqual(show_number(number), str(number))
                self.assertEqual(show_number(-number), str(-number))

    def test_some_thousand_figures(self):
        self.assertEqual(show_number(10 ** 9000 + 7), "1" + "0" * 8999 + "7")
        self.assertEqual(show_number(-(10 ** 9000)), "-1" + "0" * 9000)

    def test_it_is_read_back(self):
        for number in (0, 1, -1, 10 ** 59, 10 ** 60 - 1, 1 - 10 ** 60, int(SIXTY)):
            self.assertEqual(read_number(show_number(number)), number)

    def test_the_same_again(self):
        self.assertEqual([show_number(10 ** 61) for _ in range(2)], ["1" + "0" * 61] * 2)


if __name__ == "__main__":
    unittest.main()
