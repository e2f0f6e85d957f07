"""Point 17: leaning and lean fraction."""

import copy
import unittest
from fractions import Fraction

from matefloors.errors import FloorError, NoNumber
from matefloors.leaning import lean_fraction, leaning
from matefloors.numbers import is_number
from tests.bar_samples import UNIT, lean, mate_sign, sign_at, some_shapes
from tests.samples import (FORTY, NO_NUMBERS, NOT_ABOVE, PINWHEEL, ROOTS, TWO_THOUSAND, num, number_of, order,
                           pair_mate, pair_of, pair_over, pair_plus, pair_times, root_fractions)

FACTORS = [Fraction(2), Fraction(1, 2), Fraction(7, 3), Fraction(FORTY), Fraction(1, FORTY), Fraction(22, 7)]


def shapes_of(d):
    """Shapes with a mate above 0 and below 0, fractions, roots alone."""
    (low, low_part), (high, high_part) = root_fractions(d, 15)
    made = [num(1), num(7, 0, 3), num(1, 0, FORTY), num(0, 1), num(0, 3, 7), num(1, 1), num(9, 1), num(9, -1),
            num(high, -high_part), num(-low, low_part), num(low, low_part), num(high, high_part)]
    return made + some_shapes(d, d, 8, 1) + some_shapes(d, d, 8, -1)


def scaled(factor, x):
    p, q = pair_of(x)
    return number_of((factor * p, factor * q))


class LeaningTest(unittest.TestCase):
    def test_by_hand(self):
        # r the root of 2: (1 - r) over (1 + r) is -(1 - r)(1 - r), that is 2r - 3.
        self.assertEqual(leaning(2, num(1, 1)), num(-3, 2))
        self.assertEqual(leaning(2, num(2, 1)), num(3, -2))
        self.assertEqual(leaning(5, num(1, 1, 2)), num(-3, 1, 2))
        for d in ROOTS:
            self.assertEqual(leaning(d, num(1)), num(1))
            self.assertEqual(leaning(d, num(3, 0, 7)), num(1))
            self.assertEqual(leaning(d, num(0, 1)), num(-1))
            self.assertEqual(leaning(d, num(0, 5, 3)), num(-1))

    def test_many(self):
        for d in ROOTS:
            for shape in shapes_of(d):
                told = leaning(d, shape)
                self.assertEqual(told, number_of(pair_over(d, pair_mate(pair_of(shape)), pair_of(shape))))
                self.assertIs(is_number(told), True)
                self.assertEqual(sign_at(d, told), mate_sign(d, shape))

    def test_of_the_contrary_and_times_a_fraction(self):
        for d in ROOTS[::2]:
            for shape in shapes_of(d):
                told = pair_of(leaning(d, shape))
                turned = number_of(pair_over(d, UNIT, pair_of(shape)))
                self.assertEqual(pair_times(d, pair_of(leaning(d, turned)), told), UNIT)
                for factor in FACTORS:
                    self.assertEqual(pair_of(leaning(d, scaled(factor, shape))), told)

    def test_of_a_sum(self):
        alike = 0
        for d in ROOTS[::2]:
            shapes = shapes_of(d)
            for at, one in enumerate(shapes):
                other = shapes[(5 * at + 3) % len(shapes)]
                low, high = leaning(d, one), leaning(d, other)
                if order(d, low, high) > 0:
                    low, high = high, low
                told = leaning(d, number_of(pair_plus(pair_of(one), pair_of(other))))
                if low == high:
                    alike += 1
                    self.assertEqual(told, low)
                else:
                    self.assertEqual((order(d, low, told), order(d, told, high)), (-1, -1))
        self.assertGreater(alike, 0)

    def test_great_numbers(self):
        shape = num(TWO_THOUSAND, 7, 3)
        self.assertEqual(leaning(3, shape), number_of(pair_over(3, pair_mate(pair_of(shape)), pair_of(shape))))


class LeanFractionTest(unittest.TestCase):
    def test_by_hand(self):
        self.assertEqual(lean_fraction(2, num(1, 1)), num(-4))
        self.assertEqual(lean_fraction(2, num(2, 1)), num(8))
        self.assertEqual(lean_fraction(5, num(1, 1, 2)), num(-1))
        self.assertEqual(lean_fraction(3, num(2, 1)), num(16))
        self.assertEqual(lean_fraction(2, num(3, 1, 5)), num(36, 0, 7))
        for d in ROOTS:
            self.assertEqual(lean_fraction(d, num(1)), num(4))
            self.assertEqual(lean_fraction(d, num(3, 0, 7)), num(4))
            self.assertEqual(lean_fraction(d, num(0, 1)), num(0))
            self.assertEqual(lean_fraction(d, num(0, 5, 3)), num(0))

    def test_many(self):
        for d in ROOTS:
            for shape in shapes_of(d):
                told = lean_fraction(d, shape)
                wanted = lean(d, shape)
                self.assertEqual(told, (wanted.numerator, 0, wanted.denominator))
                self.assertIs(is_number(told), True)
                if mate_sign(d, shape) > 0:
                    self.assertGreaterEqual(Fraction(told[0], told[2]), 4)
                    self.assertEqual(told == (4, 0, 1), shape[1] == 0)
                else:
                    self.assertLessEqual(Fraction(told[0], told[2]), 0)
                    self.assertEqual(told == (0, 0, 1), shape[0] == 0)

    def test_the_same_of_the_contrary_and_times_a_fraction(self):
        for d in ROOTS:
            for shape in shapes_of(d):
                told = lean_fraction(d, shape)
                self.assertEqual(lean_fraction(d, number_of(pair_over(d, UNIT, pair_of(shape)))), told)
                for factor in FACTORS:
                    self.assertEqual(lean_fraction(d, scaled(factor, shape)), told)

    def test_by_the_leaning(self):
        for d in ROOTS:
            for shape in shapes_of(d):
                slope = pair_of(leaning(d, shape))
                together = pair_plus(pair_plus(slope, pair_over(d, UNIT, slope)), (Fraction(2), Fraction(0)))
                self.assertEqual(lean_fraction(d, shape), number_of(together))

    def test_great_numbers(self):
        told = lean_fraction(3, num(TWO_THOUSAND, 7, 3))
        wanted = lean(3, (TWO_THOUSAND, 7, 3))
        self.assertEqual(told, (wanted.numerator, 0, wanted.denominator))


class RefusalsTest(unittest.TestCase):
    def test_no_number_above_nought(self):
        for thing in NO_NUMBERS + NOT_ABOVE + [PINWHEEL, (2, 0, 4), (num(1),), [num(1)]]:
            for deed in (leaning, lean_fraction):
                with self.subTest((deed.__name__, str(thing)[:60])):
                    kept = copy.deepcopy(thing)
                    with self.assertRaises(FloorError) as taken:
                        deed(2, thing)
                    self.assertIs(taken.exception.__class__, NoNumber)
                    self.assertEqual(thing, kept)
                    self.assertEqual(leaning(2, num(1, 1)), num(-3, 2))
                    self.assertEqual(lean_fraction(2, num(1, 1)), num(-4))

    def test_just_above_and_just_below(self):
        for d in ROOTS:
            (low, low_part), (high, high_part) = root_fractions(d, 40)
            for deed in (leaning, lean_fraction):
                for shape in (num(high, -high_part), num(-low, low_part)):
                    self.assertIs(is_number(deed(d, shape)), True)
                for shape in (num(-high, high_part), num(low, -low_part)):
                    with self.assertRaises(NoNumber):
                        deed(d, shape)


if __name__ == "__main__":
    unittest.main()
