"""Point 22: numbers as texts."""

import itertools
import re
import unittest
from math import gcd

from matefloors.errors import FloorError, NoText
from matefloors.mixtures import mixture_of
from matefloors.numbers import times
from matefloors.texts import read_number, show_number
from tests.samples import FORTY, NO_NUMBERS, PINWHEEL, TWO_THOUSAND, num, some_numbers

# Whole numbers without a nought ahead; ahead of r no 0 and no 1.
ABOVE = r"[1-9][0-9]{0,39}"
ROOT = rf"(?!1r)(?:{ABOVE})?r"
PLAIN_PART, ROOT_PART = rf"(?P<a>-?{ABOVE})", rf"(?P<b>-?{ROOT})"
BOTH = rf"{PLAIN_PART}(?P<b>[+-]{ROOT})"
BELOW = rf"/(?P<c>{ABOVE})"
WRITTEN = [re.compile(form) for form in ("(?P<a>0)", PLAIN_PART, ROOT_PART, BOTH, PLAIN_PART + BELOW, ROOT_PART + BELOW,
                                         rf"\({BOTH}\){BELOW}")]
FIGURES_40 = "1234567890" * 4
FIGURES_41 = FIGURES_40 + "1"


def number_by_form(text):
    """The number of a text by the forms of point 22, or None."""
    for form in WRITTEN:
        match = form.fullmatch(text)
        if match:
            parts = {"a": "0", "b": "0r", "c": "1"} | match.groupdict()
            beside_root = parts["b"][:-1]
            a, c = int(parts["a"]), int(parts["c"])
            b = int(beside_root + "1" if beside_root in ("", "-", "+") else beside_root)
            return (a, b, c) if gcd(a, b, c) == 1 and (c != 1 or "/" not in text) else None
    return None


class ShowNumberTest(unittest.TestCase):
    def test_each_form(self):
        for x, wanted in [
                (num(0), "0"), (num(1), "1"), (num(-1), "-1"), (num(17), "17"), (num(-205), "-205"), (num(100), "100"),
                (num(0, 1), "r"), (num(0, -1), "-r"), (num(0, 2), "2r"), (num(0, -12), "-12r"), (num(0, 10), "10r"),
                (num(1, 1), "1+r"), (num(1, -1), "1-r"), (num(-1, 1), "-1+r"), (num(-1, -1), "-1-r"),
                (num(3, 2), "3+2r"), (num(3, -2), "3-2r"), (num(-3, 2), "-3+2r"), (num(-3, -20), "-3-20r"),
                (num(1, 11), "1+11r"), (num(1, -11), "1-11r"), (num(1, 0, 2), "1/2"), (num(-1, 0, 2), "-1/2"),
                (num(7, 0, 10), "7/10"), (num(0, 1, 3), "r/3"), (num(0, -1, 3), "-r/3"), (num(0, 2, 3), "2r/3"),
                (num(0, -5, 3), "-5r/3"), (num(1, -2, 3), "(1-2r)/3"), (num(1, 1, 2), "(1+r)/2"),
                (num(1, -1, 2), "(1-r)/2"), (num(-7, 3, 4), "(-7+3r)/4"), (num(-7, -1, 40), "(-7-r)/40")]:
            with self.subTest(wanted):
                self.assertEqual(show_number(x), wanted)
                self.assertIs(show_number(x).__class__, str)
                self.assertEqual(read_number(wanted), x)

    def test_read_back(self):
        for x in some_numbers(91, 300):
            parts = [abs(part) for part in x]
            text = show_number(x)
            if max(parts) < 10 ** 40:
                self.assertEqual(read_number(text), x)
                self.assertEqual(number_by_form(text), x)
        for a in range(-4, 5):
            for b in range(-4, 5):
                for c in range(1, 6):
                    x = num(a, b, c)
                    self.assertEqual(read_number(show_number(x)), x)
                    self.assertEqual(number_by_form(show_number(x)), x)

    def test_great_numbers(self):
        for k in (FORTY, TWO_THOUSAND, 10 ** 64, 10 ** 64 - 1, 10 ** 64 + 1, 10 ** 128, 7 * 10 ** 192 + 5, 10 ** 4200):
            for sign in (1, -1):
                self.assertEqual(show_number((sign * k, 0, 1)), str(sign * k))
                self.assertEqual(show_number((0, sign * k, 1)), str(sign * k) + "r")
                self.assertEqual(show_number((1, 0, k)), "1/" + str(k))
                self.assertEqual(show_number((1, sign * k, 3 * k + 1)),
                                 "(1" + ("+" if sign > 0 else "") + str(sign * k) + "r)/" + str(3 * k + 1))

    def test_numbers_of_very_many_figures(self):
        # More figures than Python writes at once.
        self.assertEqual(show_number((10 ** 9000 + 12, 0, 1)), "1" + "0" * 8998 + "12")
        self.assertEqual(show_number((-10 ** 20000, 0, 1)), "-1" + "0" * 20000)
        x = num(TWO_THOUSAND, 1, 3)
        for step in range(3):
            x = times(7, x, x)
        self.assertEqual(len(show_number(x)) > 15000, True)
        word, u, v = mixture_of(2, num(1, 1), num(3 * TWO_THOUSAND ** 2, 4 * TWO_THOUSAND ** 2, TWO_THOUSAND ** 2 + 1))
        self.assertRegex(show_number(u), r"\A[0-9]+/[0-9]+\Z")


class ReadNumberTest(unittest.TestCase):
    def refused(self, thing):
        with self.assertRaises(FloorError) as taken:
            read_number(thing)
        self.assertIs(taken.exception.__class__, NoText)

    def test_no_number(self):
        for text in ["", " ", "a", "R", "x", "one", "-", "+", "/", "(", ")", "()", "1.5", "1,5", "1e5", "1_000", "0x1",
                     "--1", "1-", "1+", "+-1", "-+1", "1+2", "1-2", "r+1", "r+r", "rr", "r2", "2r2", "1 + r", "~",
                     "none"]:
            with self.subTest(text):
                self.refused(text)

    def test_noughts(self):
        for text in ["00", "-0", "01", "-01", "0r", "-0r", "00r", "01r", "0+r", "0-r", "-0+r", "1+0r", "1-0r", "1+01r",
                     "01+r", "0/1", "0/2", "0r/2", "1/0", "1/02", "01/2", "r/0", "(1+r)/0", "(1+r)/02", "(0+r)/2",
                     "(1+0r)/2", "(1-0r)/2", "1/00", "0/0"]:
            with self.subTest(text):
                self.refused(text)

    def test_ones_beside_r(self):
        for text in ["1r", "-1r", "1+1r", "1-1r", "1r/2", "-1r/2", "(1+1r)/2", "(1-1r)/2"]:
            with self.subTest(text):
                self.refused(text)
        self.assertEqual(read_number("11r"), num(0, 11))
        self.assertEqual(read_number("1+10r"), num(1, 10))

    def test_plus_ahead(self):
        for text in ["+1", "+r", "+2r", "+1+r", "+1/2", "(+1+r)/2", "+(1+r)/2", "1+-r", "1-+r", "1++r", "1--r", "1/+2",
                     "1/-2", "-1/-2", "r/-3", "-(1+r)/2", "+0"]:
            with self.subTest(text):
                self.refused(text)

    def test_lowest_terms(self):
        for text in ["2/2", "2/4", "-3/9", "2r/2", "2r/4", "(2+2r)/2", "(2+4r)/6", "(-3+9r)/3", "1/1", "5/1", "r/1",
                     "(1+r)/1", "(5+5r)/10", "0/5", "4/2"]:
            with self.subTest(text):
                self.refused(text)
        for text, x in [("(2+3r)/6", (2, 3, 6)), ("(2+4r)/3", (2, 4, 3)), ("(3+2r)/3", (3, 2, 3))]:
            self.assertEqual(read_number(text), x)

    def test_brackets(self):
        for text in ["(1)", "(r)", "(1+r)", "(1)/2", "(r)/2", "(2r)/3", "(-1)/2", "((1+r))/2", "(1+r/2", "1+r)/2",
                     "1+r/2",
                     "1-r/2", "(1+r)/(2)", "((1+r)/2)", "(1+r)2", "[1+r]/2", "(1+r)//2", "(1+r)/", "()/2", "(/2", ")/2",
                     "(1+r)/2)", "((1+r)/2", ")1+r(/2", "-(r)/2"]:
            with self.subTest(text):
                self.refused(text)

    def test_blanks(self):
        for text in ["1", "r", "-r", "2r", "1+r", "1-2r", "1/2", "-r/3", "(1-2r)/3"]:
            for at in range(len(text) + 1):
                self.refused(text[:at] + " " + text[at:])
                self.refused(text[:at] + "\n" + text[at:])
                self.refused(text[:at] + "\t" + text[at:])

    def test_other_figures(self):
        for text in ["\u0661", "\u00b2", "\uff11", "1\u0660", "\u0661r", "1/\u0662", "1+\u0662r"]:
            self.refused(text)

    def test_forty_figures(self):
        forty, more = FIGURES_40, FIGURES_41
        whole = int(forty)
        for text, x in [(forty, (whole, 0, 1)), ("-" + forty, (-whole, 0, 1)), (forty + "r", (0, whole, 1)),
                        ("-" + forty + "r", (0, -whole, 1)), ("1/" + forty, (1, 0, whole)),
                        ("r/" + forty, (0, 1, whole)),
                        ("1+" + forty + "r", (1, whole, 1)), ("-" + forty + "-" + forty + "r", (-whole, -whole, 1)),
                        ("(1-" + forty + "r)/" + forty, (1, -whole, whole)), ("9" * 40, (10 ** 40 - 1, 0, 1))]:
            self.assertEqual(read_number(text), x)
            self.refused(text.replace(forty, more) if forty in text else text + "9")
        for text in [more, "-" + more, more + "r", "1/" + more, "1+" + more + "r", more + "+r", "(1+r)/" + more,
                     "(1+" + more + "r)/" + forty, "1" + "0" * 40, "1" * 1199, "9" * 5000, "0" * 40, "0" * 41]:
            self.refused(text)
        for k in (10 ** 40, TWO_THOUSAND):
            self.refused(show_number((k, 0, 1)))
            self.refused(show_number((1, 0, k)))
            self.refused(show_number((1, -k, 7)))

    def test_no_texts(self):
        for thing in NO_NUMBERS + [num(1), num(1, 1, 2), PINWHEEL, ["1"], ("1",), b"1", 17, -3]:
            if not isinstance(thing, str) or thing != "1":
                self.refused(thing)

    def test_every_short_text(self):
        seen = 0
        for length in range(6):
            for signs in itertools.product("012r+-/() ", repeat=length):
                text = "".join(signs)
                wanted = number_by_form(text)
                if wanted is None:
                    self.refused(text)
                else:
                    self.assertEqual(read_number(text), wanted)
                    self.assertEqual(show_number(wanted), text)
                    seen += 1
        self.assertGreater(seen, 300)

    def test_one_sign_more_fewer_or_otherwise(self):
        for text in ["0", "7", "-12", "r", "-r", "3r", "2+r", "2-3r", "1/2", "-r/3", "(1-2r)/3", "(-10+r)/7"]:
            for at in range(len(text) + 1):
                for sign in "01r+-/()x":
                    self.same(text[:at] + sign + text[at:])
                    self.same(text[:at] + sign + text[at + 1:])
                self.same(text[:at] + text[at + 1:])

    def same(self, text):
        wanted = number_by_form(text)
        if wanted is None:
            self.refused(text)
        else:
            self.assertEqual(read_number(text), wanted)


if __name__ == "__main__":
    unittest.main()
