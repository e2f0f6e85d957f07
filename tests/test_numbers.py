"""Points 2 to 5: what is a root and a number; sums, differences, products, quotients and their mates."""

import copy
import unittest

from matefloors.errors import FloorError, NoNumber
from matefloors.numbers import is_number, is_root, less, mate, number, over, plus, times
from tests.samples import (FORTY, NO_NUMBERS, ROOTS, TWO_HUNDRED, TWO_THOUSAND, num, number_of, pair_less, pair_of,
                           pair_over, pair_plus, pair_times, some_numbers)

TRIED_ROOTS = [2, 3, 5, 12, 30]


class RootTest(unittest.TestCase):
    def test_whole_numbers(self):
        for k in range(-40, 80):
            with self.subTest(k):
                self.assertIs(is_root(k), k in ROOTS)

    def test_squares_are_none(self):
        for k in (4, 9, 16, 25):
            self.assertIs(is_root(k), False)

    def test_far_whole_numbers_are_none(self):
        for k in (31, 900, FORTY, -FORTY, TWO_THOUSAND, -TWO_THOUSAND):
            self.assertIs(is_root(k), False)

    def test_other_things_are_none(self):
        for thing in (True, False, None, "", "2", "r", [], [2], (), (2,), (2, 0, 1), [[2]], ((2,),), "~" * 1200):
            with self.subTest(thing):
                self.assertIs(is_root(thing), False)


class IsNumberTest(unittest.TestCase):
    def test_numbers(self):
        wide = [(0, 0, 1), (1, 0, 1), (-1, 0, 1), (0, 1, 1), (0, -1, 1), (1, 2, 2), (2, 1, 2), (2, 2, 1), (2, 2, 3),
                (6, 10, 15), (0, 3, 2), (3, 0, 2), (-4, 6, 9), (FORTY, FORTY, 1), (FORTY, 1, FORTY),
                (-TWO_THOUSAND, TWO_THOUSAND + 1, TWO_THOUSAND)]
        for x in wide:
            with self.subTest(str(x)[:60]):
                self.assertIs(is_number(x), True)

    def test_other_things(self):
        for thing in NO_NUMBERS:
            with self.subTest(str(thing)[:60]):
                kept = copy.deepcopy(thing)
                self.assertIs(is_number(thing), False)
                self.assertEqual(thing, kept)

    def test_a_common_divisor_of_all_three(self):
        for x in [(1, 2, 3), (0, 1, 1), (-5, 7, 4), (0, 0, 1), (3, 0, 2)]:
            self.assertIs(is_number(x), True)
            for k in (2, 3, 7, 31, FORTY):
                self.assertIs(is_number((k * x[0], k * x[1], k * x[2])), False)

    def test_a_divisor_of_two_alone_is_no_matter(self):
        for k in (2, 6, 35, FORTY):
            for x in [(k, k, 1), (k, 1, k), (1, k, k), (-k, k, 1), (k, -1, k), (-1, -k, k)]:
                self.assertIs(is_number(x), True)

    def test_a_third_part_of_nought_or_below(self):
        for c in (0, -1, -2, -FORTY):
            for a, b in [(1, 0), (0, 1), (1, 1), (0, 0)]:
                self.assertIs(is_number((a, b, c)), False)


class NumberTest(unittest.TestCase):
    def test_by_hand(self):
        for parts, wanted in [((1, 2, 3), (1, 2, 3)), ((2, 4, 6), (1, 2, 3)), ((2, 4, -6), (-1, -2, 3)),
                              ((-2, 4, -6), (1, -2, 3)), ((0, 0, 5), (0, 0, 1)), ((0, 0, -5), (0, 0, 1)),
                              ((0, 6, 4), (0, 3, 2)), ((6, 0, 4), (3, 0, 2)), ((6, 0, -4), (-3, 0, 2)),
                              ((1, 1, -1), (-1, -1, 1)), ((6, 10, 15), (6, 10, 15)), ((7, 0, 7), (1, 0, 1))]:
            with self.subTest(parts):
                self.assertEqual(number(*parts), wanted)
                self.assertIsInstance(number(*parts), tuple)

    def test_small_parts(self):
        for a in range(-6, 7):
            for b in range(-6, 7):
                for c in list(range(-6, 0)) + list(range(1, 7)):
                    self.assertEqual(number(a, b, c), num(a, b, c))
                    self.assertIs(is_number(number(a, b, c)), True)

    def test_forty_figures(self):
        big = 10 ** 40 - 17
        for a, b, c in [(big, big, big), (big, -big, -big), (big, big - 1, -big), (0, big, -big), (FORTY, 35, -10),
                        (FORTY, 2 * FORTY, 3 * FORTY), (-FORTY, 0, FORTY), (1, 0, -big)]:
            with self.subTest((a, b, c)):
                self.assertEqual(number(a, b, c), num(a, b, c))
                self.assertIs(is_number(number(a, b, c)), True)

    def test_refused_over_nought(self):
        for a, b in [(0, 0), (1, 0), (0, 1), (-3, 5), (FORTY, -FORTY)]:
            with self.subTest((a, b)):
                before = number(3, 6, -9)
                with self.assertRaises(NoNumber):
                    number(a, b, 0)
                self.assertEqual(number(3, 6, -9), before)


class MateTest(unittest.TestCase):
    def test_by_hand(self):
        for x, wanted in [((1, 2, 3), (1, -2, 3)), ((1, -2, 3), (1, 2, 3)), ((0, 0, 1), (0, 0, 1)),
                          ((-5, 0, 2), (-5, 0, 2)), ((0, 1, 7), (0, -1, 7)),
                          ((FORTY, -TWO_THOUSAND, 1), (FORTY, TWO_THOUSAND, 1))]:
            self.assertEqual(mate(x), wanted)

    def test_the_mates_mate(self):
        for x in some_numbers(1, 60):
            self.assertEqual(mate(mate(x)), x)
            self.assertIs(is_number(mate(x)), True)


class ReckoningTest(unittest.TestCase):
    """Each answer beside one that is reckoned with Fractions."""

    def check(self, answer, pair):
        self.assertEqual(answer, number_of(pair))
        self.assertIs(is_number(answer), True)

    def test_by_hand(self):
        self.assertEqual(plus((1, 0, 2), (1, 0, 3)), (5, 0, 6))
        self.assertEqual(plus((1, 1, 2), (1, -1, 2)), (1, 0, 1))
        self.assertEqual(less((1, 1, 2), (1, -1, 2)), (0, 1, 1))
        self.assertEqual(less((1, 0, 3), (1, 0, 2)), (-1, 0, 6))
        self.assertEqual(times(2, (1, 1, 1), (1, -1, 1)), (-1, 0, 1))
        self.assertEqual(times(5, (1, 1, 2), (1, 1, 2)), (3, 1, 2))
        self.assertEqual(times(8, (0, 1, 2), (0, 1, 2)), (2, 0, 1))
        self.assertEqual(over(2, (1, 0, 1), (1, 1, 1)), (-1, 1, 1))
        self.assertEqual(over(2, (1, 0, 1), (1, -1, 1)), (-1, -1, 1))
        self.assertEqual(over(3, (0, 3, 1), (0, 1, 2)), (6, 0, 1))
        self.assertEqual(over(3, (1, 0, 1), (0, 1, 1)), (0, 1, 3))
        self.assertEqual(over(7, (5, -3, 4), (5, -3, 4)), (1, 0, 1))
        self.assertEqual(over(7, (0, 0, 1), (5, -3, 4)), (0, 0, 1))

    def test_sums_and_differences(self):
        tried = some_numbers(2, 40)
        for x in tried:
            for y in tried:
                self.check(plus(x, y), pair_plus(pair_of(x), pair_of(y)))
                self.check(less(x, y), pair_less(pair_of(x), pair_of(y)))

    def test_products_and_quotients(self):
        tried = some_numbers(3, 30)
        for d in TRIED_ROOTS:
            for x in tried:
                for y in tried:
                    self.check(times(d, x, y), pair_times(d, pair_of(x), pair_of(y)))
                    if y != (0, 0, 1):
                        self.check(over(d, x, y), pair_over(d, pair_of(x), pair_of(y)))

    def test_every_root(self):
        x, y = num(5, -3, 4), num(-2, 7, 6)
        for d in ROOTS:
            self.check(times(d, x, y), pair_times(d, pair_of(x), pair_of(y)))
            self.check(over(d, x, y), pair_over(d, pair_of(x), pair_of(y)))

    def test_large_parts(self):
        for size in (TWO_HUNDRED, TWO_THOUSAND):
            x, y = num(size, -size - 1, 3 * size + 1), num(-size, 2 * size - 3, size + 7)
            self.check(plus(x, y), pair_plus(pair_of(x), pair_of(y)))
            self.check(less(x, y), pair_less(pair_of(x), pair_of(y)))
            self.check(times(6, x, y), pair_times(6, pair_of(x), pair_of(y)))
            self.check(over(6, x, y), pair_over(6, pair_of(x), pair_of(y)))

    def test_in_any_order(self):
        tried = some_numbers(4, 22)
        for x in tried:
            for y in tried:
                self.assertEqual(plus(x, y), plus(y, x))
                self.assertEqual(times(3, x, y), times(3, y, x))
                for z in tried[::3]:
                    self.assertEqual(plus(plus(x, y), z), plus(x, plus(z, y)))
                    self.assertEqual(times(3, times(3, x, y), z), times(3, x, times(3, z, y)))

    def test_back_again(self):
        tried = some_numbers(5, 30)
        for x in tried:
            self.assertEqual(less(x, x), (0, 0, 1))
            for y in tried:
                self.assertEqual(less(plus(x, y), y), x)
                if y != (0, 0, 1):
                    self.assertEqual(times(7, over(7, x, y), y), x)

    def test_nought(self):
        for x in some_numbers(6, 30):
            self.assertEqual(plus(x, (0, 0, 1)), x)
            self.assertEqual(less(x, (0, 0, 1)), x)
            self.assertEqual(less((0, 0, 1), x), (-x[0], -x[1], x[2]))
            self.assertEqual(times(2, x, (0, 0, 1)), (0, 0, 1))

    def test_a_number_and_its_mate_make_fractions(self):
        for d in TRIED_ROOTS:
            for x in some_numbers(7, 30):
                self.assertEqual(plus(x, mate(x))[1], 0)
                self.assertEqual(times(d, x, mate(x))[1], 0)
                self.assertEqual(less(x, mate(x))[0], 0)

    def test_mates_of_what_is_reckoned(self):
        tried = some_numbers(8, 26)
        for d in TRIED_ROOTS:
            for x in tried:
                for y in tried:
                    self.assertEqual(mate(plus(x, y)), plus(mate(x), mate(y)))
                    self.assertEqual(mate(less(x, y)), less(mate(x), mate(y)))
                    self.assertEqual(mate(times(d, x, y)), times(d, mate(x), mate(y)))
                    if y != (0, 0, 1):
                        self.assertEqual(mate(over(d, x, y)), over(d, mate(x), mate(y)))

    def test_what_was_told_may_be_handed_in_again(self):
        x = num(FORTY, 3, 7)
        for step in range(6):
            x = times(11, x, x)
        self.assertIs(is_number(x), True)
        self.assertEqual(over(11, x, x), (1, 0, 1))

    def test_refused_over_nought(self):
        for d in ROOTS:
            for x in [(0, 0, 1), (1, 0, 1), (-2, 3, 5), (FORTY, 1, 1)]:
                before = over(d, x, (1, 1, 1))
                with self.assertRaises(NoNumber):
                    over(d, x, (0, 0, 1))
                with self.assertRaises(FloorError):
                    over(d, x, less((1, 1, 2), (1, 1, 2)))
                self.assertEqual(over(d, x, (1, 1, 1)), before)


if __name__ == "__main__":
    unittest.main()
