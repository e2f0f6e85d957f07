"""Points 15 and 16: streams and heights of nets."""

import copy
import unittest

from matefloors.errors import FloorError, NoFit, NoNet, TooMany
from matefloors.nets import mate_net, net_of
from matefloors.numbers import less, plus, times
from matefloors.streams import streams_of
from tests.lay_samples import some_net, streams_by_rows
from tests.samples import (FORTY, NO_NUMBERS, PINWHEEL, ROOT_PINWHEEL, ROOTS, TWO_THOUSAND, floor_of, num,
                           some_laying)

ONE, NOUGHT = num(1), num(0)
TIE = (0, 1, num(2, 1, 3))


def mate_of(x):
    return (x[0], -x[1], x[2])


class StreamsTest(unittest.TestCase):
    def check(self, d, net, through):
        """As a system of all unknowns has it; the balances hold."""
        kept = copy.deepcopy((net, through))
        wanted = streams_by_rows(d, net, through)
        if wanted is None:
            with self.assertRaises(NoFit):
                streams_of(d, net, through)
            self.assertEqual((net, through), kept)
            return False
        told = streams_of(d, net, through)
        self.assertEqual(told, wanted)
        self.assertEqual([told.__class__, told[0].__class__, told[1].__class__], [tuple, list, list])
        self.balanced(d, net, through, *told)
        self.assertEqual((net, through), kept)
        return True

    def balanced(self, d, net, through, streams, heights):
        lines, ties = net
        self.assertEqual((len(streams), len(heights), heights[0]), (len(ties), lines, NOUGHT))
        out = [NOUGHT] * lines
        for stream, (lower, upper, shape) in zip(streams, ties):
            self.assertEqual(times(d, stream, shape), less(heights[upper], heights[lower]))
            out[lower] = plus(out[lower], stream)
            out[upper] = less(out[upper], stream)
        self.assertEqual(out[0], through)
        self.assertEqual(out[-1], less(NOUGHT, through))
        self.assertTrue(all(rest == NOUGHT for rest in out[1:-1]))

    def test_by_hand(self):
        for net, through, wanted in [
                ((2, ((0, 1, num(3)),)), num(2), ([num(2)], [NOUGHT, num(6)])),
                ((2, ((0, 1, num(3)),)), num(-2), ([num(-2)], [NOUGHT, num(-6)])),
                ((2, ((0, 1, num(3)),)), NOUGHT, ([NOUGHT], [NOUGHT, NOUGHT])),
                ((2, ((0, 1, num(1)), (0, 1, num(2)))), num(3), ([num(2), num(1)], [NOUGHT, num(2)])),
                ((3, ((1, 2, num(2)), (0, 1, num(1)))), num(5), ([num(5), num(5)], [NOUGHT, num(5), num(15)])),
                ((2, ((0, 1, num(1)), (0, 1, num(-2)))), num(1), ([num(2), num(-1)], [NOUGHT, num(2)])),
                ((2, ((0, 1, num(0, 1)),)), num(0, 1), ([num(0, 1)], [NOUGHT, num(2)])),
                ((2, ((0, 1, num(1, 1)), (0, 1, num(-1, 1)))), num(0, 2), ([num(-1, 1), num(1, 1)], [NOUGHT, num(1)]))]:
            with self.subTest(net):
                self.assertEqual(streams_of(2, net, through), wanted)

    def test_a_line_that_hangs_from_one(self):
        # Nothing goes to line 1, which has the height of line 0.
        self.assertEqual(streams_of(2, (3, ((0, 1, num(7)), (0, 2, num(2)))), num(3)),
                         ([NOUGHT, num(3)], [NOUGHT, NOUGHT, num(6)]))
        self.assertEqual(streams_of(2, (4, ((0, 3, num(2)), (1, 3, num(5)), (1, 2, num(4)))), num(3)),
                         ([num(3), NOUGHT, NOUGHT], [NOUGHT, num(6), num(6), num(6)]))

    def test_balanced_bridge(self):
        net = (4, ((0, 1, ONE), (0, 2, ONE), (1, 2, num(5)), (1, 3, ONE), (2, 3, ONE)))
        half = num(1, 0, 2)
        self.assertEqual(streams_of(2, net, ONE), ([half, half, NOUGHT, half, half], [NOUGHT, half, half, ONE]))

    def test_nets_of_layings(self):
        layings = [PINWHEEL, ROOT_PINWHEEL, floor_of(3, 2, (0, 0, 1, 1), (1, 0, 1, 2), (2, 0, 1, 1), (0, 1, 1, 1),
                                                     (2, 1, 1, 1))]
        tried = 0
        for seed in range(80):
            d = ROOTS[seed % len(ROOTS)]
            laying = layings[seed] if seed < len(layings) else some_laying(d, 600 + seed, 1 + seed % 12)
            net = net_of(d, laying)
            tried += len(net[1]) == 12
            streams, heights = streams_of(d, net, laying[0])
            self.assertEqual(streams, [tile[2] for tile in laying[2]])
            self.assertEqual(heights[0], NOUGHT)
            self.assertEqual(heights[-1], laying[1])
            for tile, (lower, upper, shape) in zip(laying[2], net[1]):
                self.assertEqual(heights[lower], tile[1])
                self.assertEqual(heights[upper], plus(tile[1], tile[3]))
            mates = streams_of(d, mate_net(net), mate_of(laying[0]))
            self.assertEqual(mates, ([mate_of(x) for x in streams], [mate_of(x) for x in heights]))
        self.assertGreater(tried, 3)

    def test_nets_of_no_laying(self):
        fit = {True: 0, False: 0}
        for seed in range(150):
            d = ROOTS[seed % len(ROOTS)]
            fit[self.check(d, some_net(seed), num(seed % 5 - 1, seed % 3, 1 + seed % 4))] += 1
        self.assertTrue(min(fit.values()) > 15, fit)

    def test_mates_of_any_net(self):
        for seed in range(60):
            d, net = ROOTS[seed % len(ROOTS)], some_net(1000 + seed)
            through = num(3, seed % 4 - 1, 2)
            if streams_by_rows(d, net, through):
                streams, heights = streams_of(d, net, through)
                self.assertEqual(streams_of(d, mate_net(net), mate_of(through)),
                                 ([mate_of(x) for x in streams], [mate_of(x) for x in heights]))

    def test_through_times_a_number(self):
        for seed in range(30):
            d, net = ROOTS[seed % len(ROOTS)], some_net(2000 + seed)
            if streams_by_rows(d, net, ONE):
                streams, heights = streams_of(d, net, ONE)
                factor = num(5, -3, 7)
                self.assertEqual(streams_of(d, net, factor), ([times(d, x, factor) for x in streams],
                                                              [times(d, x, factor) for x in heights]))

    def test_ties_in_any_order(self):
        net = net_of(2, ROOT_PINWHEEL)
        streams, heights = streams_of(2, net, num(2))
        for start in range(5):
            ties = net[1][start:] + net[1][:start]
            self.assertEqual(streams_of(2, (net[0], ties), num(2)), (streams[start:] + streams[:start], heights))

    def test_great_numbers(self):
        great = (TWO_THOUSAND, 1, FORTY)
        self.assertEqual(streams_of(7, (2, ((0, 1, great),)), ONE), ([ONE], [NOUGHT, great]))
        self.assertEqual(streams_of(7, (3, ((0, 1, ONE), (1, 2, num(2)))), great),
                         ([great, great], [NOUGHT, great, times(7, great, num(3))]))
        streams, heights = streams_of(7, (2, ((0, 1, great), (0, 1, num(-3, 2, FORTY)))), num(FORTY, 1))
        self.balanced(7, (2, ((0, 1, great), (0, 1, num(-3, 2, FORTY)))), num(FORTY, 1), streams, heights)
        for d in (2, 29):
            net = some_net(7, 6, 10)
            net = (net[0], tuple((i, j, num(FORTY + i, 7 * FORTY + j, FORTY + 3 * i + j)) for i, j, shape in net[1]))
            self.check(d, net, num(FORTY, -1, 11))

    def test_new_lists_each_time(self):
        net = net_of(2, ROOT_PINWHEEL)
        streams, heights = first = streams_of(2, net, num(3, 1))
        kept = copy.deepcopy(first)
        streams.append(None)
        heights.clear()
        second = streams_of(2, net, num(3, 1))
        self.assertEqual(second, kept)
        second[0].reverse()
        second[1][0] = num(9)
        self.assertEqual(streams_of(2, net, num(3, 1)), kept)
        self.assertEqual(heights, [])


class BoundsTest(unittest.TestCase):
    def test_thirteen_lines_and_twelve_ties(self):
        chain = (13, tuple((at, at + 1, num(at + 1)) for at in range(12)))
        self.assertEqual(streams_of(2, chain, num(2)), ([num(2)] * 12, [num(at * (at + 1)) for at in range(13)]))
        star = (13, tuple((0, at, num(0, 1)) for at in range(1, 13)))
        self.assertEqual(streams_of(2, star, num(2)), ([NOUGHT] * 11 + [num(2)], [NOUGHT] * 12 + [num(0, 2)]))
        beside = (2, ((0, 1, num(0, 1)),) * 12)
        self.assertEqual(streams_of(2, beside, num(12)), ([ONE] * 12, [NOUGHT, num(0, 1)]))

    def test_more(self):
        for net in [(14, tuple((at, at + 1, ONE) for at in range(13))), (14, ((0, 13, ONE),)), (2, ((0, 1, ONE),) * 13),
                    (13, ((0, 12, ONE),) * 13), (14, ((0, 1, ONE),) * 12), (61, ((0, 1, ONE),) * 60), (2, (TIE,) * 60),
                    # Lines without a tie, too: TooMany stands ahead of NoFit.
                    (61, ((0, 60, ONE),)), (2, ((0, 1, ONE), (0, 1, num(-1))) * 7)]:
            kept = copy.deepcopy(net)
            with self.assertRaises(FloorError) as taken:
                streams_of(2, net, ONE)
            self.assertIs(taken.exception.__class__, TooMany)
            self.assertEqual(net, kept)


class NoFitTest(unittest.TestCase):
    def no_fit(self, net, throughs=(ONE, NOUGHT, num(0, 1), num(-3))):
        for through in throughs:
            with self.subTest((net, through)):
                with self.assertRaises(FloorError) as taken:
                    streams_of(2, net, through)
                self.assertIs(taken.exception.__class__, NoFit)

    def test_a_line_without_a_tie(self):
        self.no_fit((3, ((0, 2, ONE),)))
        self.no_fit((3, ((0, 1, ONE),)))
        self.no_fit((3, ((1, 2, ONE),)))
        self.no_fit((13, tuple((at, at + 1, ONE) for at in range(11))))
        self.no_fit((13, ((0, 12, ONE),)))

    def test_parts_that_hang_together_with_nothing(self):
        self.no_fit((4, ((0, 3, ONE), (1, 2, ONE))))
        self.no_fit((4, ((0, 1, ONE), (2, 3, ONE))))
        self.no_fit((6, ((0, 1, ONE), (1, 5, num(0, 1)), (2, 3, ONE), (3, 4, num(2)), (2, 4, num(3)))))

    def test_shapes_that_cancel(self):
        self.no_fit((2, ((0, 1, ONE), (0, 1, num(-1)))))
        self.no_fit((2, ((0, 1, num(2)), (0, 1, num(2)), (0, 1, num(-1)))))
        # 1 over (1 + r) is r - 1, r the root of 2.
        self.no_fit((2, ((0, 1, num(1, 1)), (0, 1, num(1, -1)), (0, 1, num(1, 0, 2)))))
        self.no_fit((3, ((0, 1, ONE), (0, 1, num(-1)), (1, 2, ONE))))
        self.no_fit((3, ((0, 1, ONE), (1, 2, ONE), (0, 2, num(-2)))))
        self.no_fit((4, ((0, 1, ONE), (1, 2, num(3)), (1, 2, num(-3)), (2, 3, ONE))))

    def test_shapes_that_cancel_at_a_line_alone(self):
        # What comes into line 1 cancels with what goes out, yet there is just one answer.
        net = (3, ((0, 1, ONE), (1, 2, num(-1)), (0, 2, ONE)))
        self.assertEqual(streams_of(2, net, ONE), streams_by_rows(2, net, ONE))
        net = (4, ((0, 1, ONE), (1, 2, num(-1)), (0, 2, num(2)), (2, 3, num(-2))))
        self.assertEqual(streams_of(2, net, num(1, 1)), streams_by_rows(2, net, num(1, 1)))
        # Series of shapes that come to 0: the last line has the first one's height.
        self.assertEqual(streams_of(2, (3, ((0, 1, ONE), (1, 2, num(-1)))), num(5)),
                         ([num(5), num(5)], [NOUGHT, num(5), NOUGHT]))


class NoNetTest(unittest.TestCase):
    def test_any_thing_that_is_none(self):
        for thing in NO_NUMBERS + [num(1), PINWHEEL, (1, (TIE,)), (62, (TIE,)), (2, ()), (2, (TIE,) * 61), (2, [TIE]),
                                   [2, (TIE,)], (2, ((0, 1, NOUGHT),)), (2, ((1, 0, ONE),)), (2, ((0, 2, ONE),)),
                                   (2, ((False, 1, ONE),)), (2, ((0, True, ONE),)), (True, (TIE,)), (2, (TIE, None)),
                                   (2, ((0, 1, (2, 0, 2)),)), (2, (list(TIE),)), (14, ()), (14, (TIE,) * 61),
                                   (14, (TIE,) * 13 + ((0, 1, NOUGHT),)), (62, ((0, 61, ONE),))]:
            with self.subTest(str(thing)[:60]):
                kept = copy.deepcopy(thing)
                with self.assertRaises(FloorError) as taken:
                    streams_of(2, thing, ONE)
                self.assertIs(taken.exception.__class__, NoNet)
                self.assertEqual(thing, kept)
                self.assertEqual(streams_of(2, (2, (TIE,)), ONE), ([ONE], [NOUGHT, TIE[2]]))


if __name__ == "__main__":
    unittest.main()
