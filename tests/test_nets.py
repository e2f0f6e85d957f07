"""Points 14 and 15: the net of a laying, what is a net, the net with the mates."""

import copy
import random
import unittest
from functools import cmp_to_key

from matefloors.errors import FloorError, NoLaying, NoNet
from matefloors.layings import shapes_in
from matefloors.moving import mirrored, stretched
from matefloors.nets import is_net, mate_net, net_of
from tests.lay_samples import number_plus, rank, some_net
from tests.plan_samples import all_paths, at_path, put_at
from tests.samples import (FORTY, NO_LAYINGS, NO_NUMBERS, PINWHEEL, ROOT_PINWHEEL, ROOTS, SIXTY, TWO_THOUSAND,
                           floor_of, num, some_laying)

ONE = num(1)
TIE = (0, 1, num(2, 1, 3))


def net_by_touching(d, laying):
    """The net, by sides that are put together as long as two of them share a spot."""
    sides = []
    for x, y, width, height in laying[2]:
        right = number_plus(x, width)
        sides += [(y, x, right), (number_plus(y, height), x, right)]
    group = list(range(len(sides)))
    changed = True
    while changed:
        changed = False
        for at, (y, left, right) in enumerate(sides):
            for also, (other, start, end) in enumerate(sides[:at]):
                if y == other and group[at] != group[also] and rank(d, left, end) <= 0 and rank(d, start, right) <= 0:
                    group[at] = group[also] = min(group[at], group[also])
                    changed = True
    firsts = {}
    for at, side in enumerate(sides):
        best = firsts.get(group[at], side)
        firsts[group[at]] = side if rank(d, side[1], best[1]) < 0 else best
    ranked = sorted(firsts, key=cmp_to_key(
        lambda one, other: rank(d, firsts[one][0], firsts[other][0]) or rank(d, firsts[one][1], firsts[other][1])))
    number = {name: at for at, name in enumerate(ranked)}
    shapes = shapes_in(d, laying)
    ties = tuple((number[group[2 * at]], number[group[2 * at + 1]], shape) for at, shape in enumerate(shapes))
    return (len(ranked), ties)


class NetOfTest(unittest.TestCase):
    def check(self, d, laying):
        kept = copy.deepcopy(laying)
        net = net_of(d, laying)
        self.assertEqual(net, net_by_touching(d, laying))
        self.assertIs(is_net(net), True)
        self.assertEqual(laying, kept)
        return net

    def test_one_tile(self):
        self.assertEqual(net_of(2, floor_of(3, 2, (0, 0, 3, 2))), (2, ((0, 1, num(2, 0, 3)),)))

    def test_beside_and_upon(self):
        self.assertEqual(net_of(2, floor_of(2, 1, (1, 0, 1, 1), (0, 0, 1, 1))), (2, ((0, 1, ONE), (0, 1, ONE))))
        self.assertEqual(net_of(2, floor_of(1, 3, (0, 1, 1, 2), (0, 0, 1, 1))), (3, ((1, 2, num(2)), (0, 1, ONE))))

    def test_lines_at_one_height_that_share_a_spot(self):
        # Four squares about one spot: the middle line is one.
        four = floor_of(2, 2, (0, 0, 1, 1), (1, 0, 1, 1), (0, 1, 1, 1), (1, 1, 1, 1))
        self.assertEqual(net_of(2, four), (3, ((0, 1, ONE), (0, 1, ONE), (1, 2, ONE), (1, 2, ONE))))

    def test_sides_that_only_touch(self):
        # A lower tile's upper side ends where an upper tile's lower side begins: the two share a spot.
        laying = floor_of(3, 2, (0, 0, 1, 1), (1, 0, 2, 1), (0, 1, 2, 1), (2, 1, 1, 1))
        self.assertEqual(net_of(2, laying)[0], 3)

    def test_lines_at_one_height_apart(self):
        # Left and right a cut at height 1, between them a tile of height 2.
        laying = floor_of(3, 2, (0, 0, 1, 1), (1, 0, 1, 2), (2, 0, 1, 1), (0, 1, 1, 1), (2, 1, 1, 1))
        self.assertEqual(net_of(2, laying),
                         (4, ((0, 1, ONE), (0, 3, num(2)), (0, 2, ONE), (1, 3, ONE), (2, 3, ONE))))
        # The same, its tiles in another order: lines are numbered all the same.
        other = (laying[0], laying[1], laying[2][::-1])
        self.assertEqual(net_of(2, other), (4, net_of(2, laying)[1][::-1]))

    def test_numbered_by_height_then_from_the_left(self):
        # Two columns, cut at 1 and 3, at 2 and 3; between them a tile of full height.
        laying = floor_of(3, 4, (2, 3, 1, 1), (2, 0, 1, 2), (2, 2, 1, 1), (0, 1, 1, 2), (0, 0, 1, 1), (0, 3, 1, 1),
                          (1, 0, 1, 4))
        self.assertEqual(net_of(2, laying), (6, ((4, 5, ONE), (0, 2, num(2)), (2, 4, ONE), (1, 3, num(2)), (0, 1, ONE),
                                                 (3, 5, ONE), (0, 5, num(4)))))

    def test_ten_lines_at_one_height(self):
        tiles = []
        for at in range(10):
            tiles += [(2 * at, 1, 1, 1), (2 * at, 0, 1, 1), (2 * at + 1, 0, 1, 2)]
        net = net_of(2, floor_of(20, 2, *tiles))
        self.assertEqual(net[0], 12)
        for at in range(10):
            self.assertEqual(net[1][3 * at:3 * at + 3], ((1 + at, 11, ONE), (0, 1 + at, ONE), (0, 11, num(2))))

    def test_heights_by_their_worth(self):
        # Cuts at 7/5, the root of 2, 3/2, each in a column of its own.
        cuts = [num(0, 1), num(3, 0, 2), num(7, 0, 5)]
        tiles = []
        for at, cut in enumerate(cuts):
            tiles += [(num(at), num(0), ONE, cut), (num(at), cut, ONE, num(2 * cut[2] - cut[0], -cut[1], cut[2]))]
        net = net_of(2, (num(3), num(2), tuple(tiles)))
        self.assertEqual([(lower, upper) for lower, upper, shape in net[1]],
                         [(0, 2), (2, 4), (0, 3), (3, 4), (0, 1), (1, 4)])

    def test_no_cut_through(self):
        self.assertEqual(net_of(2, PINWHEEL), (4, ((0, 1, num(1, 0, 2)), (0, 2, num(2)), (2, 3, num(1, 0, 2)),
                                                  (1, 3, num(2)), (1, 2, ONE))))
        for d in ROOTS:
            self.check(d, ROOT_PINWHEEL)

    def test_sixty_tiles(self):
        net = net_of(3, SIXTY)
        self.assertEqual(net, (7, tuple((at // 10, at // 10 + 1, ONE) for at in range(60))))
        tall = floor_of(1, 60, *[(0, y, 1, 1) for y in range(60)])
        self.assertEqual(net_of(3, tall), (61, tuple((at, at + 1, ONE) for at in range(60))))
        wide = floor_of(60, 1, *[(x, 0, 1, 1) for x in range(60)])
        self.assertEqual(net_of(3, wide), (2, ((0, 1, ONE),) * 60))
        for seed in range(4):
            self.check(ROOTS[seed], some_laying(ROOTS[seed], seed, 60))

    def test_many(self):
        for seed in range(60):
            d = ROOTS[seed % len(ROOTS)]
            self.check(d, some_laying(d, 300 + seed, 1 + seed % 40))

    def test_tiles_in_any_order(self):
        for seed in range(20):
            d = ROOTS[seed]
            laying = some_laying(d, 400 + seed, 12)
            lines, ties = net_of(d, laying)
            order = list(range(len(ties)))
            random.Random(seed).shuffle(order)
            other = (laying[0], laying[1], tuple(laying[2][at] for at in order))
            self.assertEqual(net_of(d, other), (lines, tuple(ties[at] for at in order)))

    def test_stretched_and_mirrored(self):
        for seed in range(20):
            d = ROOTS[seed]
            laying = some_laying(d, 500 + seed, 14)
            self.assertEqual(net_of(d, stretched(d, laying, num(1, 1, 3))), net_of(d, laying))
            self.assertEqual(net_of(d, mirrored(d, laying))[0], net_of(d, laying)[0])

    def test_no_laying(self):
        for thing in NO_LAYINGS:
            with self.subTest(str(thing)[:60]):
                kept = copy.deepcopy(thing)
                with self.assertRaises(FloorError) as taken:
                    net_of(2, thing)
                self.assertIs(taken.exception.__class__, NoLaying)
                self.assertEqual(thing, kept)


class IsNetTest(unittest.TestCase):
    def check(self, thing, wanted):
        kept = copy.deepcopy(thing)
        self.assertIs(is_net(thing), wanted)
        self.assertEqual(thing, kept)

    def test_lines(self):
        for lines in range(-2, 66):
            self.check((lines, (TIE,)), 2 <= lines <= 61)
        for lines in [None, True, False, "2", (2,), [2], FORTY, -FORTY, num(2), ""]:
            self.check((lines, (TIE,)), False)

    def test_how_many_ties(self):
        for many in (0, 1, 2, 30, 59, 60, 61, 62, 2000):
            self.check((2, (TIE,) * many), 1 <= many <= 60)
            self.check((61, (TIE,) * many), 1 <= many <= 60)

    def test_lower_and_upper(self):
        for lines in (2, 3, 5):
            for lower in range(-2, 7):
                for upper in range(-2, 7):
                    wanted = 0 <= lower < upper < lines
                    self.check((lines, ((lower, upper, ONE),)), wanted)
                    self.check((lines, (TIE, (lower, upper, ONE), TIE)), wanted)
        self.check((61, ((0, 60, ONE), (59, 60, ONE))), True)
        self.check((61, ((0, 61, ONE),)), False)
        for odd in [True, False, None, "0", "1", (0,), [1], num(0), num(1)]:
            self.check((3, ((odd, 2, ONE),)), False)
            self.check((3, ((0, odd, ONE),)), False)

    def test_shapes(self):
        for shape in [num(1), num(-1), num(0, 1), num(0, -1), num(-5, 3, 7), num(1, 0, FORTY), (TWO_THOUSAND, 1, 1)]:
            self.check((2, ((0, 1, shape),)), True)
            self.check((2, (TIE, (0, 1, shape))), True)
        for shape in NO_NUMBERS + [num(0), list(num(1))]:
            self.check((2, ((0, 1, shape),)), False)
            self.check((2, (TIE, (0, 1, shape))), False)

    def test_any_thing(self):
        for thing in NO_NUMBERS + [num(1), PINWHEEL, TIE, (TIE,), (2, TIE), (2,), (2, (TIE,), 2), [2, (TIE,)],
                                   (2, [TIE]), (2, (list(TIE),)), ((TIE,), 2), (2, ((0, 1),)), (2, ((0, 1, ONE, ONE),)),
                                   (2, (TIE, None)), (2, None), (2, "ab"), (2, (0, 1, ONE)), ((2, (TIE,)),)]:
            with self.subTest(str(thing)[:60]):
                self.check(thing, False)

    def test_odd_things_at_any_place(self):
        net = (4, ((0, 1, num(1)), (1, 3, num(2, 1, 3)), (0, 2, num(0, -1)), (2, 3, num(-1))))
        self.check(net, True)
        for path in all_paths(net):
            for odd in [None, "", (), [], True, -1, (net,), "kind", list(net), 99]:
                if path and len(path) == 4 and odd in (-1, 99):
                    continue
                self.check(put_at(net, path, odd), False)
            if isinstance(at_path(net, path), tuple):
                self.check(put_at(net, path, list(at_path(net, path))), False)

    def test_many(self):
        for seed in range(60):
            self.check(some_net(seed, 61, 60), True)


class MateNetTest(unittest.TestCase):
    def test_mates_of_the_shapes(self):
        net = (3, ((0, 1, num(1, 2, 3)), (1, 2, num(-4)), (0, 2, num(0, -1)), (0, 1, num(5, -7, 2))))
        self.assertEqual(mate_net(net),
                         (3, ((0, 1, num(1, -2, 3)), (1, 2, num(-4)), (0, 2, num(0, 1)), (0, 1, num(5, 7, 2)))))

    def test_many(self):
        for seed in range(60):
            net = some_net(seed, 61, 60)
            kept = copy.deepcopy(net)
            other = mate_net(net)
            self.assertEqual(other, (net[0], tuple((i, j, (a, -b, c)) for i, j, (a, b, c) in net[1])))
            self.assertIs(is_net(other), True)
            self.assertEqual(mate_net(other), net)
            self.assertEqual(net, kept)

    def test_no_net(self):
        for thing in NO_NUMBERS + [num(1), PINWHEEL, (1, (TIE,)), (62, (TIE,)), (2, ()), (2, (TIE,) * 61), (2, [TIE]),
                                   [2, (TIE,)], (2, ((0, 1, num(0)),)), (2, ((1, 0, ONE),)), (2, ((0, 2, ONE),)),
                                   (2, ((False, 1, ONE),)), (2, ((0, True, ONE),)), (True, (TIE,))]:
            with self.subTest(str(thing)[:60]):
                kept = copy.deepcopy(thing)
                with self.assertRaises(FloorError) as taken:
                    mate_net(thing)
                self.assertIs(taken.exception.__class__, NoNet)
                self.assertEqual(thing, kept)


if __name__ == "__main__":
    unittest.main()
