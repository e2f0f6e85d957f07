"""The names and arguments of the interface."""

import inspect
import unittest

from matefloors import (bars, desk, layings, leaning, looker, mixtures, moving, nets, numbers, plans, spots, squares,
                        streams, texts, weighing, wishes)

NUMBERS = {
    "is_root": ["thing"], "is_number": ["thing"], "number": ["a", "b", "c"], "mate": ["x"], "plus": ["x", "y"],
    "less": ["x", "y"], "times": ["d", "x", "y"], "over": ["d", "x", "y"], "sign_of": ["d", "x"],
    "is_above": ["d", "x", "y"], "whole_beneath": ["d", "x"],
}
LAYINGS = {
    "is_laying": ["d", "thing"], "shapes_in": ["d", "laying"], "is_by": ["d", "laying", "kinds"],
    "tiles_at": ["d", "laying", "x", "y"],
}
MOVING = {
    "turned": ["d", "laying"], "mirrored": ["d", "laying"], "stretched": ["d", "laying", "factor"],
    "put_in": ["d", "laying", "place", "other"],
}
WEIGHING = {"weighed": ["d", "weights", "width", "height"], "weighed_sums": ["d", "weights", "laying"]}
BARS = {"never_below": ["d", "weights", "kind"], "is_bar": ["d", "kinds", "shape", "thing"]}
SQUARES = {"squares_of": ["d", "width", "height"], "squares_laid": ["d", "width", "height"]}
PLANS = {
    "is_plan": ["thing", "many"], "shape_of": ["d", "kinds", "plan"], "mate_shape": ["d", "kinds", "plan"],
    "count_of": ["plan"],
}
SPOTS = {"tile_at": ["d", "kinds", "plan", "x", "y"], "laid_out": ["d", "kinds", "plan", "width"]}
NETS = {"net_of": ["d", "laying"], "is_net": ["thing"], "mate_net": ["net"]}
STREAMS = {"streams_of": ["d", "net", "through"]}
MIXTURES = {"mixture_of": ["d", "kind", "shape"], "plan_of_mixture": ["u", "v", "place"]}
LEANING = {"leaning": ["d", "shape"], "lean_fraction": ["d", "shape"]}
WISHES = {"wish_told": ["d", "kinds", "shape"], "is_laid": ["d", "kinds", "shape"], "leans_most": ["d", "kinds"]}
LOOKER = {"holds": ["d", "kinds", "claim", "paper"]}
TEXTS = {"show_number": ["x"], "read_number": ["text"], "show_plan": ["plan"], "read_plan": ["text"]}


class InterfaceTest(unittest.TestCase):
    def check(self, module, wanted):
        for name, arguments in wanted.items():
            with self.subTest(name):
                self.assertEqual(list(inspect.signature(getattr(module, name)).parameters), arguments)

    def test_numbers(self):
        self.check(numbers, NUMBERS)

    def test_layings(self):
        self.check(layings, LAYINGS)

    def test_moving(self):
        self.check(moving, MOVING)

    def test_weighing_and_bars(self):
        self.check(weighing, WEIGHING)
        self.check(bars, BARS)

    def test_squares(self):
        self.check(squares, SQUARES)

    def test_plans(self):
        self.check(plans, PLANS)

    def test_spots(self):
        self.check(spots, SPOTS)

    def test_nets_and_streams(self):
        self.check(nets, NETS)
        self.check(streams, STREAMS)

    def test_mixtures(self):
        self.check(mixtures, MIXTURES)

    def test_leaning(self):
        self.check(leaning, LEANING)

    def test_wishes_and_looker(self):
        self.check(wishes, WISHES)
        self.check(looker, LOOKER)

    def test_texts(self):
        self.check(texts, TEXTS)

    def test_desk(self):
        self.assertTrue(inspect.isclass(desk.Desk))
        self.assertEqual(list(inspect.signature(desk.Desk).parameters), ["d"])
        self.assertEqual(list(inspect.signature(desk.Desk(2).say).parameters), ["row"])


if __name__ == "__main__":
    unittest.main()
