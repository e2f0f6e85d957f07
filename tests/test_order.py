"""Point 5: the sign, which of two numbers is above, the greatest whole number that isn't above a number."""

import unittest
from math import isqrt

from matefloors.numbers import is_above, less, plus, sign_of, whole_beneath
from tests.samples import (FORTY, ROOTS, TWO_HUNDRED, TWO_THOUSAND, near, num, order, root_fractions, sign,
                           some_numbers)

SIZES = (6, 40, 200)


def is_whole(thing):
    return isinstance(thing, int) and not isinstance(thing, bool)


class SignTest(unittest.TestCase):
    def test_by_hand(self):
        for d, x, wanted in [(2, (0, 0, 1), 0), (2, (1, 0, 9), 1), (2, (-1, 0, 9), -1), (2, (0, 1, 9), 1),
                             (2, (0, -1, 9), -1), (2, (1, 1, 1), 1), (2, (-1, -1, 1), -1), (2, (1, -1, 1), -1),
                             (2, (-1, 1, 1), 1), (2, (3, -2, 1), 1), (2, (-3, 2, 1), -1), (3, (-2, 1, 1), -1),
                             (5, (-2, 1, 1), 1), (3, (2, -1, 1), 1), (5, (2, -1, 1), -1), (30, (-5, 1, 2), 1),
                             (24, (-5, 1, 2), -1), (24, (5, -1, 2), 1)]:
            with self.subTest((d, x)):
                self.assertEqual(sign_of(d, x), wanted)
                self.assertTrue(is_whole(sign_of(d, x)))

    def test_small_parts(self):
        for d in ROOTS:
            for a in range(-8, 9):
                for b in range(-8, 9):
                    x = num(a, b, 1 + (a * a + b) % 5)
                    self.assertEqual(sign_of(d, x), sign(d, x, 40))

    def test_many(self):
        for d in (2, 3, 7, 30):
            for x in some_numbers(11, 80):
                self.assertEqual(sign_of(d, x), sign(d, x))

    def test_very_near_nought(self):
        for d in ROOTS:
            for figures in SIZES:
                (low_p, low_q), (high_p, high_q) = root_fractions(d, figures)
                self.assertEqual(sign_of(d, (-low_p, low_q, 1)), 1)
                self.assertEqual(sign_of(d, (low_p, -low_q, 1)), -1)
                self.assertEqual(sign_of(d, (-high_p, high_q, 7)), -1)
                self.assertEqual(sign_of(d, (high_p, -high_q, 7)), 1)

    def test_two_thousand_figures(self):
        (low_p, low_q), (high_p, high_q) = root_fractions(7, 2000)
        self.assertEqual(sign_of(7, (-low_p, low_q, 1)), 1)
        self.assertEqual(sign_of(7, (high_p, -high_q, TWO_THOUSAND)), 1)
        self.assertEqual(sign_of(7, (low_p, -low_q, 1)), -1)
        self.assertEqual(sign_of(7, (-high_p, high_q, 1)), -1)


class AboveTest(unittest.TestCase):
    def check(self, d, x, y):
        wanted = order(d, x, y)
        self.assertIs(is_above(d, x, y), wanted == 1)
        self.assertIs(is_above(d, y, x), wanted == -1)

    def test_by_hand(self):
        for d, x, y, wanted in [(2, (1, 0, 1), (0, 0, 1), True), (2, (0, 0, 1), (1, 0, 1), False),
                                (2, (0, 1, 1), (7, 0, 5), True), (2, (0, 1, 1), (3, 0, 2), False),
                                (2, (-1, 0, 2), (-1, 0, 3), False), (2, (-1, 0, 3), (-1, 0, 2), True),
                                (2, (0, -1, 1), (-3, 0, 2), True), (5, (1, 1, 2), (8, 0, 5), True),
                                (5, (1, 1, 2), (13, 0, 8), False), (5, (1, -1, 2), (1, 1, 2), False)]:
            with self.subTest((d, x, y)):
                self.assertIs(is_above(d, x, y), wanted)

    def test_alike(self):
        for d in ROOTS:
            for x in some_numbers(12, 30):
                self.assertIs(is_above(d, x, x), False)

    def test_many_in_either_order(self):
        tried = some_numbers(13, 40)
        for d in (2, 5, 29):
            for at, x in enumerate(tried):
                for y in tried[at:]:
                    self.check(d, x, y)

    def test_very_near_one_another(self):
        for d in ROOTS:
            for figures in SIZES:
                (low_p, low_q), (high_p, high_q) = root_fractions(d, figures)
                root, low, high = (0, 1, 1), num(low_p, 0, low_q), num(high_p, 0, high_q)
                rising = [low, root, high]
                for at, x in enumerate(rising):
                    for also, y in enumerate(rising):
                        self.assertIs(is_above(d, x, y), at > also)
                for shift in [num(-3, 2, 5), num(7, -9, 4)]:
                    self.assertIs(is_above(d, plus(root, shift), plus(low, shift)), True)
                    self.assertIs(is_above(d, plus(low, shift), plus(root, shift)), False)
                    self.assertIs(is_above(d, less(shift, low), less(shift, root)), True)
                    self.assertIs(is_above(d, less(shift, root), less(shift, low)), False)


class WholeBeneathTest(unittest.TestCase):
    def check(self, d, x, figures=900):
        found = whole_beneath(d, x)
        self.assertTrue(is_whole(found))
        if x[1] == 0:
            self.assertEqual(found, x[0] // x[2])
            return
        value = near(d, x, figures)
        self.assertTrue(found <= value < found + 1, (d, x))

    def test_by_hand(self):
        for d, x, wanted in [(2, (0, 0, 1), 0), (2, (5, 0, 1), 5), (2, (-5, 0, 1), -5), (2, (1, 0, 2), 0),
                             (2, (-1, 0, 2), -1), (2, (7, 0, 3), 2), (2, (-7, 0, 3), -3), (2, (0, 1, 1), 1),
                             (2, (0, -1, 1), -2), (2, (0, 5, 1), 7), (2, (0, -5, 1), -8), (2, (1, 1, 1), 2),
                             (2, (1, -1, 1), -1), (2, (-1, 1, 1), 0), (2, (3, -2, 1), 0), (2, (-3, 2, 1), -1),
                             (5, (1, 1, 2), 1), (5, (1, -1, 2), -1), (5, (-1, -1, 2), -2), (30, (0, 1, 6), 0),
                             (30, (0, -1, 6), -1), (30, (0, 1, 5), 1), (24, (0, 1, 1), 4), (26, (0, 1, 1), 5)]:
            with self.subTest((d, x)):
                self.assertEqual(whole_beneath(d, x), wanted)

    def test_whole_numbers_and_fractions(self):
        for k in [0, 1, -1, 17, -17, FORTY, -FORTY, TWO_THOUSAND, -TWO_THOUSAND]:
            self.assertEqual(whole_beneath(3, (k, 0, 1)), k)
            self.assertEqual(whole_beneath(3, num(2 * k + 1, 0, 2)), k)
            self.assertEqual(whole_beneath(3, num(TWO_HUNDRED * k - 1, 0, TWO_HUNDRED)), k - 1)

    def test_small_parts(self):
        for d in ROOTS:
            for a in range(-7, 8):
                for b in range(-7, 8):
                    for c in (1, 2, 5):
                        self.check(d, num(a, b, c), 40)

    def test_many(self):
        for d in (2, 3, 10, 30):
            for x in some_numbers(14, 80):
                self.check(d, x)

    def test_large_parts(self):
        for a, b, c in [(TWO_HUNDRED, -TWO_HUNDRED + 1, 3), (-TWO_HUNDRED, TWO_HUNDRED, FORTY), (1, -TWO_HUNDRED, 7)]:
            self.check(13, num(a, b, c))
        self.check(13, num(-TWO_THOUSAND, TWO_THOUSAND - 3, FORTY), 4500)
        self.check(13, num(TWO_THOUSAND, -TWO_THOUSAND - 3, 1), 4500)

    def test_just_beside_a_whole_number(self):
        for d in ROOTS:
            for figures in SIZES:
                (low_p, low_q), (high_p, high_q) = root_fractions(d, figures)
                for whole in (0, 1, -1, 12, FORTY, -FORTY):
                    self.assertEqual(whole_beneath(d, (whole - low_p, low_q, 1)), whole)
                    self.assertEqual(whole_beneath(d, (whole + low_p, -low_q, 1)), whole - 1)
                    self.assertEqual(whole_beneath(d, (whole - high_p, high_q, 1)), whole - 1)
                    self.assertEqual(whole_beneath(d, (whole + high_p, -high_q, 1)), whole)
                    self.assertEqual(whole_beneath(d, num(5 * whole - low_p, low_q, 5)), whole)
                    self.assertEqual(whole_beneath(d, num(5 * whole + low_p, -low_q, 5)), whole - 1)

    def test_roots_of_large_whole_numbers(self):
        for d in ROOTS:
            for k in [1, 2, 3, 10 ** 6, FORTY, TWO_HUNDRED, TWO_THOUSAND]:
                self.assertEqual(whole_beneath(d, (0, k, 1)), isqrt(d * k * k))
                self.assertEqual(whole_beneath(d, (0, -k, 1)), -isqrt(d * k * k) - 1)


if __name__ == "__main__":
    unittest.main()
