"""Points 3 and 11: the greatest squares taken away from a floor, and the laying by them."""

import copy
import random
import unittest
from fractions import Fraction

from matefloors.bars import is_bar
from matefloors.errors import FloorError, NoFit, NoNumber, TooMany
from matefloors.layings import is_by, is_laying
from matefloors.moving import stretched
from matefloors.squares import squares_laid, squares_of
from tests.bar_samples import UNIT, is_right_bar, mate_sign, sign_at, some_shapes
from tests.samples import (FORTY, NO_NUMBERS, NOT_ABOVE, PINWHEEL, ROOTS, TWO_HUNDRED, TWO_THOUSAND, floor_of,
                           laying_of, num, number_of, pair_less, pair_of, pair_over, pair_plus, pair_times,
                           root_fractions)

ZERO = (Fraction(0), Fraction(0))


def boxes_taken(d, width, height):
    """How many squares go at each step, and the squares, each taken away from what is left."""
    x, y = ZERO, ZERO
    counts, boxes = [], []
    while width != ZERO and height != ZERO:
        many = 0
        if sign_at(d, number_of(pair_less(width, height))) >= 0:
            while sign_at(d, number_of(pair_less(width, height))) >= 0:
                boxes.append((x, y, height, height))
                x, width, many = pair_plus(x, height), pair_less(width, height), many + 1
        else:
            while sign_at(d, number_of(pair_less(height, width))) >= 0:
                boxes.append((x, y, width, width))
                y, height, many = pair_plus(y, width), pair_less(height, width), many + 1
        counts.append(many)
    return counts, boxes


def fraction_of(counts):
    """The long side over the short one of the floor from which so many squares go."""
    told = Fraction(counts[-1])
    for many in counts[-2::-1]:
        told = many + 1 / told
    return told


def sides_of(d, factor, m, n):
    """Width and height, n and m times the factor."""
    pair = pair_of(factor)
    return (number_of((n * pair[0], n * pair[1])), number_of((m * pair[0], m * pair[1])))


def some_factors(d):
    (low, low_part), (high, high_part) = root_fractions(d, 20)
    return [num(1), num(2, 0, 3), num(0, 1), num(1, 1), num(31, -1, 4), num(123456, 654321, 7), num(1, 0, FORTY),
            num(high, -high_part), num(-low, low_part)]


class SquaresOfTest(unittest.TestCase):
    def check(self, d, width, height, counts):
        told = squares_of(d, width, height)
        self.assertEqual(told, ("squares", counts))
        self.assertIsInstance(told, tuple)
        self.assertIsInstance(told[1], list)

    def test_by_hand(self):
        for width, height, counts in [(1, 1, [1]), (2, 1, [2]), (1, 2, [2]), (7, 1, [7]), (1, 7, [7]), (3, 2, [1, 2]),
                                      (2, 3, [1, 2]), (7, 3, [2, 3]), (3, 7, [2, 3]), (8, 5, [1, 1, 1, 2]),
                                      (5, 8, [1, 1, 1, 2]), (10, 4, [2, 2]), (16, 9, [1, 1, 3, 2]), (61, 60, [1, 60]),
                                      (1000, 999, [1, 999]), (43, 30, [1, 2, 3, 4])]:
            for d in ROOTS[::4]:
                self.check(d, num(width), num(height), counts)
                self.check(d, num(0, width), num(0, height), counts)
                self.check(d, num(width, 0, 7), num(height, 0, 7), counts)

    def test_whole_and_one_over_a_whole_number(self):
        for many in (1, 2, 3, 59, 60, 61, 999999, FORTY):
            for width in (num(1), num(0, 1), num(3, 1, 2)):
                height = num(many * width[0], many * width[1], width[2])
                self.check(5, width, height, [many])
                self.check(5, height, width, [many])

    def test_small_fractions(self):
        for m in range(1, 14):
            for n in range(1, 14):
                d = ROOTS[(m + 3 * n) % len(ROOTS)]
                for factor in some_factors(d)[::2]:
                    width, height = sides_of(d, factor, m, n)
                    self.check(d, width, height, boxes_taken(d, pair_of(width), pair_of(height))[0])

    def test_step_by_step(self):
        for d in ROOTS:
            for m, n in [(9, 13), (50, 7), (3, 31), (12, 12), (89, 55)]:
                for factor in some_factors(d):
                    width, height = sides_of(d, factor, m, n)
                    self.check(d, width, height, boxes_taken(d, pair_of(width), pair_of(height))[0])

    def test_six_figures_and_many_steps(self):
        chance = random.Random(71)
        ratios = [Fraction(chance.randint(10 ** 5, 10 ** 6), chance.randint(10 ** 5, 10 ** 6)) for turn in range(60)]
        ratios += [Fraction(832040, 1346269), Fraction(1346269, 832040), Fraction(999999, 999998), Fraction(1, 999999)]
        ratios += [Fraction(FORTY, 7 * 10 ** 30 + 1), Fraction(TWO_HUNDRED, FORTY ** 4 + 3)]
        for at, ratio in enumerate(ratios):
            d = ROOTS[at % len(ROOTS)]
            for factor in some_factors(d)[at % 3::3]:
                width, height = sides_of(d, factor, ratio.numerator, ratio.denominator)
                word, counts = squares_of(d, width, height)
                self.assertEqual(word, "squares")
                # Each fraction is that of one list alone, of which the last is above 1, but for [1].
                self.assertTrue(all(many >= 1 for many in counts))
                self.assertTrue(counts[-1] > 1 or counts == [1])
                self.assertEqual(fraction_of(counts), max(ratio, 1 / ratio))

    def test_many_steps(self):
        low, high = 1, 1
        for steps in range(1, 400):
            low, high = high, low + high
        self.check(7, num(low), num(high), [1] * 398 + [2])
        self.check(7, num(0, high), num(0, low), [1] * 398 + [2])

    def test_stretched_and_turned(self):
        for d in ROOTS[::2]:
            for m, n in [(1, 1), (5, 3), (3, 5), (17, 99), (1000, 1)]:
                counts = squares_of(d, num(n), num(m))[1]
                for factor in some_factors(d):
                    width, height = sides_of(d, factor, m, n)
                    self.check(d, width, height, counts)
                    self.check(d, height, width, counts)

    def test_great_numbers(self):
        self.check(3, num(TWO_THOUSAND, 0, FORTY), num(3 * TWO_THOUSAND, 0, 2 * FORTY), [1, 2])
        width = num(TWO_THOUSAND, TWO_HUNDRED, 7)
        self.check(3, width, num(5 * width[0], 5 * width[1], 3 * width[2]), [1, 1, 2])

    def test_a_new_list_each_time(self):
        first = squares_of(2, num(7), num(3))[1]
        second = squares_of(2, num(7), num(3))[1]
        self.assertIsNot(first, second)
        first.append(9)
        first[0] = None
        self.assertEqual(second, [2, 3])
        self.assertEqual(squares_of(2, num(7), num(3)), ("squares", [2, 3]))
        self.assertEqual(len(squares_laid(2, num(7), num(3))[2]), 5)


class BarTest(unittest.TestCase):
    def check(self, d, width, height):
        shape = number_of(pair_over(d, pair_of(height), pair_of(width)))
        told = squares_of(d, width, height)
        self.assertIsInstance(told, tuple)
        self.assertEqual((len(told), told[0]), (2, "bar"))
        self.assertTrue(is_right_bar(d, (num(1),), shape, told[1]))
        self.assertIs(is_bar(d, (num(1),), shape, told[1]), True)
        with self.assertRaises(NoFit):
            squares_laid(d, width, height)

    def test_where_height_over_width_is_no_fraction(self):
        for d in ROOTS:
            for shape in some_shapes(d, d, 12, 1) + some_shapes(d, d, 12, -1) + [num(0, 1), num(9, 1), num(9, -1)]:
                if shape[1] != 0:
                    for width in some_factors(d)[::2]:
                        self.check(d, width, number_of(pair_times(d, pair_of(width), pair_of(shape))))

    def test_very_near_a_fraction(self):
        for d in ROOTS:
            (low, low_part), (high, high_part) = root_fractions(d, 40)
            seen = set()
            for near in (Fraction(1), Fraction(7, 3), Fraction(1, 1000), Fraction(60)):
                for p, q in [(Fraction(0), Fraction(1, FORTY)), (Fraction(high), Fraction(-high_part)),
                             (Fraction(-low), Fraction(low_part)), (Fraction(0), Fraction(-1, FORTY ** 2)),
                             (Fraction(low), Fraction(-low_part)), (Fraction(0), Fraction(1, TWO_HUNDRED))]:
                    shape = number_of((near + p, q))
                    seen.add((mate_sign(d, shape), shape[1] > 0))
                    self.check(d, num(1), shape)
                    self.check(d, shape, num(1))
            self.assertEqual(seen, {(1, True), (1, False), (-1, True)})

    def test_great_numbers(self):
        told = squares_of(3, num(1), num(TWO_THOUSAND, 1, 3))
        self.assertIs(is_bar(3, (num(1),), num(TWO_THOUSAND, 1, 3), told[1]), True)
        told = squares_of(3, num(TWO_THOUSAND, 1, 3), num(1))
        shape = number_of(pair_over(3, UNIT, pair_of(num(TWO_THOUSAND, 1, 3))))
        self.assertIs(is_bar(3, (num(1),), shape, told[1]), True)


class SquaresLaidTest(unittest.TestCase):
    def check(self, d, width, height):
        told = squares_laid(d, width, height)
        counts, boxes = boxes_taken(d, pair_of(width), pair_of(height))
        self.assertEqual(told, laying_of(pair_of(width), pair_of(height), boxes))
        self.assertIs(is_laying(d, told), True)
        self.assertIs(is_by(d, told, (num(1),)), True)
        self.assertEqual(squares_of(d, width, height), ("squares", counts))

    def test_by_hand(self):
        self.assertEqual(squares_laid(2, num(7), num(3)), floor_of(
            7, 3, (0, 0, 3, 3), (3, 0, 3, 3), (6, 0, 1, 1), (6, 1, 1, 1), (6, 2, 1, 1)))
        self.assertEqual(squares_laid(2, num(3), num(7)), floor_of(
            3, 7, (0, 0, 3, 3), (0, 3, 3, 3), (0, 6, 1, 1), (1, 6, 1, 1), (2, 6, 1, 1)))
        self.assertEqual(squares_laid(2, num(8), num(5)), floor_of(
            8, 5, (0, 0, 5, 5), (5, 0, 3, 3), (5, 3, 2, 2), (7, 3, 1, 1), (7, 4, 1, 1)))
        self.assertEqual(squares_laid(2, num(5), num(5)), floor_of(5, 5, (0, 0, 5, 5)))
        root = num(0, 1)
        self.assertEqual(squares_laid(3, num(0, 2), root), floor_of(
            num(0, 2), root, (0, 0, root, root), (root, 0, root, root)))

    def test_many(self):
        for m in range(1, 12):
            for n in range(1, 12):
                d = ROOTS[(5 * m + n) % len(ROOTS)]
                for factor in some_factors(d)[(m + n) % 3::3]:
                    self.check(d, *sides_of(d, factor, m, n))

    def test_just_sixty_and_sixty_one(self):
        for d in ROOTS[::6]:
            for factor in some_factors(d)[::3]:
                for counts in [[60], [30, 30], [58, 2], [1, 59], [1, 1, 58], [20, 20, 20], [10] * 6, [1] * 58 + [2]]:
                    ratio = fraction_of(counts)
                    for m, n in [(ratio.numerator, ratio.denominator), (ratio.denominator, ratio.numerator)]:
                        self.check(d, *sides_of(d, factor, m, n))
                for counts in [[61], [31, 30], [30, 31], [59, 2], [1, 60], [20, 20, 21], [1] * 59 + [2], [FORTY]]:
                    ratio = fraction_of(counts)
                    for m, n in [(ratio.numerator, ratio.denominator), (ratio.denominator, ratio.numerator)]:
                        width, height = sides_of(d, factor, m, n)
                        with self.assertRaises(TooMany):
                            squares_laid(d, width, height)
                        self.assertEqual(squares_of(d, width, height), ("squares", counts))

    def test_stretched(self):
        for d in ROOTS[::3]:
            for m, n in [(5, 7), (7, 5), (1, 20), (13, 8)]:
                for factor in some_factors(d):
                    width, height = sides_of(d, factor, m, n)
                    self.assertEqual(squares_laid(d, width, height),
                                     stretched(d, squares_laid(d, num(n), num(m)), factor))


class RefusalsTest(unittest.TestCase):
    def refused(self, error, deed, width, height):
        kept = copy.deepcopy((width, height))
        with self.assertRaises(FloorError) as taken:
            deed(2, width, height)
        self.assertIs(taken.exception.__class__, error)
        self.assertEqual((width, height), kept)
        self.assertEqual(squares_of(2, num(3), num(2)), ("squares", [1, 2]))
        self.assertEqual(squares_laid(2, num(2), num(2)), floor_of(2, 2, (0, 0, 2, 2)))

    def test_no_number_above_nought(self):
        for deed in (squares_of, squares_laid):
            for thing in NO_NUMBERS + NOT_ABOVE + [PINWHEEL, (3, 0, 6)]:
                with self.subTest((deed.__name__, str(thing)[:60])):
                    self.refused(NoNumber, deed, thing, num(2))
                    self.refused(NoNumber, deed, num(2), thing)
                    self.refused(NoNumber, deed, thing, thing)
                    # Ahead of NoFit, and of TooMany.
                    self.refused(NoNumber, deed, num(0, 1), thing)
                    self.refused(NoNumber, deed, thing, num(FORTY))
        for width, height in [(num(-3), num(-2)), (num(0), num(0)), (num(-1), num(1))]:
            self.refused(NoNumber, squares_of, width, height)
            self.refused(NoNumber, squares_laid, width, height)

    def test_no_fit_and_too_many(self):
        self.refused(NoFit, squares_laid, num(1), num(0, 1))
        self.refused(NoFit, squares_laid, num(0, 1), num(1))
        self.refused(NoFit, squares_laid, num(1), num(FORTY, 1))
        self.refused(NoFit, squares_laid, num(FORTY, 1), num(1))
        self.refused(TooMany, squares_laid, num(1), num(61))
        self.refused(TooMany, squares_laid, num(61), num(1))

    def test_by_the_root_told_beside(self):
        for d in ROOTS:
            if d > 4:
                self.assertEqual(squares_of(d, num(-2, 1), num(-6, 3)), ("squares", [3]))
            else:
                with self.assertRaises(NoNumber):
                    squares_of(d, num(-2, 1), num(-6, 3))
                with self.assertRaises(NoNumber):
                    squares_laid(d, num(1), num(-2, 1))


if __name__ == "__main__":
    unittest.main()
