"""Point 2: the refusals of layings, one at a time and two at once, and right questions behind them."""

import copy
import unittest

from matefloors.errors import FloorError, NoKinds, NoLaying, NoNumber
from matefloors.layings import is_by, shapes_in, tiles_at
from tests.samples import NO_KINDS, NO_LAYINGS, NO_NUMBERS, PINWHEEL, RIGHT_KINDS, ROOTS, SIXTY, num

KINDS = (num(1), num(2))


class RefusalsTest(unittest.TestCase):
    def refused(self, error, deed, *things):
        """The refusal is made, changes nothing, and a right question is answered behind it as ahead of it."""
        kept = copy.deepcopy(things)
        with self.assertRaises(FloorError) as taken:
            deed(2, *things)
        self.assertIs(taken.exception.__class__, error)
        self.assertEqual(things, kept)
        self.assertEqual(shapes_in(2, PINWHEEL), [(1, 0, 2), (2, 0, 1), (1, 0, 2), (2, 0, 1), (1, 0, 1)])
        self.assertIs(is_by(2, PINWHEEL, KINDS), True)
        self.assertEqual(tiles_at(2, PINWHEEL, num(1), num(1)), [0, 3, 4])

    def test_no_laying(self):
        for thing in NO_LAYINGS:
            with self.subTest(str(thing)[:60]):
                self.refused(NoLaying, shapes_in, thing)
                self.refused(NoLaying, is_by, thing, KINDS)
                self.refused(NoLaying, tiles_at, thing, num(1), num(0, 1))

    def test_no_kinds(self):
        for kinds in RIGHT_KINDS:
            self.assertIs(is_by(2, SIXTY, kinds), True)
        for thing in NO_KINDS:
            with self.subTest(str(thing)[:60]):
                self.refused(NoKinds, is_by, PINWHEEL, thing)

    def test_kinds_by_the_root_told_beside(self):
        for d in ROOTS:
            kinds = (num(-2, 1),)
            if d > 4:
                self.assertIs(is_by(d, SIXTY, kinds), False)
            else:
                with self.assertRaises(NoKinds):
                    is_by(d, SIXTY, kinds)

    def test_no_number(self):
        for thing in NO_NUMBERS:
            with self.subTest(str(thing)[:60]):
                self.refused(NoNumber, tiles_at, PINWHEEL, thing, num(1))
                self.refused(NoNumber, tiles_at, PINWHEEL, num(1), thing)
                self.refused(NoNumber, tiles_at, PINWHEEL, thing, thing)
                self.refused(NoNumber, tiles_at, PINWHEEL, num(9), thing)
                self.refused(NoNumber, tiles_at, PINWHEEL, thing, num(-9))

    def test_no_laying_ahead_of_others(self):
        for laying in NO_LAYINGS[::3]:
            for thing in NO_KINDS[::5]:
                self.refused(NoLaying, is_by, laying, thing)
            for thing in NO_NUMBERS[::6]:
                self.refused(NoLaying, tiles_at, laying, thing, num(1))
                self.refused(NoLaying, tiles_at, laying, num(1), thing)
                self.refused(NoLaying, tiles_at, laying, thing, thing)


if __name__ == "__main__":
    unittest.main()
