"""Points 2 and 3 over the whole program: any things, nothing changed, what was told handed in again."""

import copy
import random
import unittest

from matefloors.bars import is_bar
from matefloors.desk import Desk
from matefloors.errors import (FloorError, NoFit, NoKinds, NoLaying, NoName, NoNet, NoNumber, NoPlan, NoRoot, NoSaying,
                               NoSpot, NoText, NoTile, TooMany)
from matefloors.layings import is_by, is_laying, shapes_in, tiles_at
from matefloors.leaning import lean_fraction, leaning
from matefloors.looker import holds
from matefloors.mixtures import mixture_of, plan_of_mixture
from matefloors.moving import mirrored, put_in, stretched, turned
from matefloors.nets import is_net, mate_net, net_of
from matefloors.numbers import is_number, is_root, mate, over, plus, times
from matefloors.plans import count_of, is_plan, mate_shape, shape_of
from matefloors.spots import laid_out, tile_at
from matefloors.squares import squares_laid, squares_of
from matefloors.streams import streams_of
from matefloors.texts import read_number, read_plan, show_number, show_plan
from matefloors.weighing import weighed, weighed_sums
from matefloors.wishes import is_laid, leans_most, wish_told
from tests.bar_samples import some_shapes
from tests.samples import FORTY, PINWHEEL, ROOTS, SIXTY, TWO_THOUSAND, num
from tests.test_looker import alike
from tests.wish_samples import kinds_of_both_signs, kinds_of_one_sign

ONE, ZERO = num(1), num(0)
A = ("kind", 0)
PLAN = ("upon", (A, ("turn", A), ("grid", 2, 3, A)))
WEIGHTS = (ZERO, ONE, num(-1), ZERO)
BAR = (ONE, WEIGHTS)
NET = net_of(2, PINWHEEL)
WORDS = ["kind", "turn", "upon", "beside", "grid", "laid", "barred", "mixed", "squares", "plan", "laying", "a", "1",
         "r",
         "kinds", "kind a 1", "1/2", "(a/b)", "", " ", "x" * 1200]
SEEDS = [ONE, num(0, 1), ZERO, num(-1), num(1, 1, 2), (num(1, 1),), (ONE, num(0, 1)), PINWHEEL, SIXTY, PLAN, A, NET,
         BAR,
         WEIGHTS, [2, 3], ("laid", ONE), ("plan", A), ("mixed", 0, ONE), (ONE, ZERO), ("squares", ONE, num(2)),
         ("barred", num(0, 1)), ("laying", PINWHEEL)]

# Each function that takes any things: how it is called, and the refusals that its brackets name.
ASKED = [
    (lambda x: is_root(x), ()), (lambda x: is_number(x), ()), (lambda x: is_laying(2, x), ()),
    (lambda x: is_net(x), ()), (lambda x: is_plan(x, 2), ()), (lambda x: shapes_in(2, x), (NoLaying,)),
    (lambda x: is_by(2, x, (ONE, num(2))), (NoLaying,)), (lambda x: is_by(2, PINWHEEL, x), (NoKinds,)),
    (lambda x: tiles_at(2, x, ONE, ONE), (NoLaying,)), (lambda x: tiles_at(2, PINWHEEL, x, ONE), (NoNumber,)),
    (lambda x: tiles_at(2, PINWHEEL, ONE, x), (NoNumber,)), (lambda x: turned(2, x), (NoLaying,)),
    (lambda x: mirrored(2, x), (NoLaying,)), (lambda x: stretched(2, x, ONE), (NoLaying,)),
    (lambda x: stretched(2, PINWHEEL, x), (NoNumber,)), (lambda x: put_in(2, x, 4, PINWHEEL),
                                                         (NoLaying, NoTile, NoFit, TooMany)),
    (lambda x: put_in(2, PINWHEEL, 4, x), (NoLaying, NoTile, NoFit, TooMany)),
    (lambda x: put_in(2, PINWHEEL, x, PINWHEEL), (NoTile, NoFit)), (lambda x: weighed_sums(2, WEIGHTS, x), (NoLaying,)),
    (lambda x: is_bar(2, (ONE,), num(0, 1), x), ()), (lambda x: is_bar(2, x, num(0, 1), BAR), (NoKinds,)),
    (lambda x: is_bar(2, (ONE,), x, BAR), (NoNumber,)), (lambda x: squares_of(2, x, ONE), (NoNumber,)),
    (lambda x: squares_of(2, ONE, x), (NoNumber,)), (lambda x: squares_laid(2, x, ONE), (NoNumber, NoFit, TooMany)),
    (lambda x: squares_laid(2, ONE, x), (NoNumber, NoFit, TooMany)), (lambda x: shape_of(2, x, A), (NoKinds,)),
    (lambda x: shape_of(2, (ONE,), x), (NoPlan,)), (lambda x: mate_shape(2, x, A), (NoKinds,)),
    (lambda x: mate_shape(2, (ONE,), x), (NoPlan,)), (lambda x: count_of(x), (NoPlan,)),
    (lambda x: tile_at(2, x, A, ZERO, ZERO), (NoKinds,)), (lambda x: tile_at(2, (ONE,), x, ZERO, ZERO), (NoPlan,)),
    (lambda x: tile_at(2, (ONE,), A, x, ZERO), (NoSpot,)), (lambda x: tile_at(2, (ONE,), A, ZERO, x), (NoSpot,)),
    (lambda x: laid_out(2, x, A, ONE), (NoKinds,)), (lambda x: laid_out(2, (ONE,), x, ONE), (NoPlan, TooMany)),
    (lambda x: laid_out(2, (ONE,), A, x), (NoNumber,)), (lambda x: net_of(2, x), (NoLaying,)),
    (lambda x: mate_net(x), (NoNet,)), (lambda x: streams_of(2, x, ONE), (NoNet, TooMany, NoFit)),
    (lambda x: leaning(2, x), (NoNumber,)), (lambda x: lean_fraction(2, x), (NoNumber,)),
    (lambda x: mixture_of(2, x, ONE), (NoNumber,)), (lambda x: mixture_of(2, ONE, x), (NoNumber,)),
    (lambda x: wish_told(2, x, ONE), (NoKinds,)), (lambda x: wish_told(2, (ONE,), x), (NoNumber,)),
    (lambda x: is_laid(2, x, ONE), (NoKinds,)), (lambda x: is_laid(2, (ONE,), x), (NoNumber,)),
    (lambda x: leans_most(2, x), (NoKinds,)), (lambda x: holds(2, x, ("laid", ONE), ("plan", A)), (NoKinds,)),
    (lambda x: holds(2, (ONE,), x, ("plan", A)), ()), (lambda x: holds(2, (ONE,), ("laid", ONE), x), ()),
    (lambda x: holds(2, (ONE,), x, x), ()), (lambda x: holds(2, (ONE,), ("squares", ONE, ONE), x), ()),
    (lambda x: holds(2, (ONE,), ("mixed", 0, ONE), x), ()), (lambda x: holds(2, (ONE,), ("barred", num(0, 1)), x), ()),
    (lambda x: read_number(x), (NoText,)), (lambda x: read_plan(x), (NoText,)), (lambda x: show_plan(x), (NoPlan,)),
    (lambda x: Desk(x), (NoRoot,)), (lambda x: Desk(2).say(x), (NoSaying, NoText, NoName, NoNumber)),
]


def some_thing(chance, depth):
    """Any thing, as point 2 tells it."""
    sort = chance.random()
    if depth == 0 or sort < 0.35:
        return chance.choice([None, True, False, 0, 1, 2, 3, -1, 60, 10 ** 59, -10 ** 59] + WORDS)
    if sort < 0.5:
        return copy.deepcopy(chance.choice(SEEDS))
    parts = [some_thing(chance, depth - 1) for at in range(chance.randint(0, 4))]
    return parts if sort < 0.65 else tuple(parts)


def bent(chance, thing):
    """A thing with another one at some place within it."""
    if not isinstance(thing, (tuple, list)) or not thing or chance.random() < 0.2:
        return some_thing(chance, 2)
    parts = list(thing)
    at = chance.randrange(len(parts))
    parts[at] = bent(chance, parts[at])
    return parts if isinstance(thing, list) else tuple(parts)


def nested(thing, many, shut):
    for at in range(many):
        thing = shut(thing)
    return thing


def any_things(seed, many):
    chance = random.Random(seed)
    things = [copy.deepcopy(thing) for thing in SEEDS]
    things += [nested(ONE, 40, lambda x: [x]), nested((), 40, lambda x: (x,)), nested(A, 39, lambda x: ("turn", x)),
               nested("", 39, lambda x: (x, x)[:1] + ([],)), [None] * 2000, ((),) * 2000, (ONE,) * 2000,
               ("kind",) * 2000,
               (TWO_THOUSAND, 1, TWO_THOUSAND), (TWO_THOUSAND, TWO_THOUSAND, 1), ((TWO_THOUSAND, 1, 3),)]
    things += [some_thing(chance, 4) for at in range(many)]
    things += [bent(chance, chance.choice(SEEDS)) for at in range(many)]
    return things


class AnyThingTest(unittest.TestCase):
    def test_answers_and_refusals(self):
        """Each call is answered, or refused as its brackets say, and changes nothing."""
        answered = set()
        for at, thing in enumerate(any_things(1, 400)):
            for place, (ask, brackets) in enumerate(ASKED):
                kept = copy.deepcopy(thing)
                try:
                    ask(thing)
                    answered.add(place)
                except FloorError as refusal:
                    self.assertIn(refusal.__class__, brackets, (at, place))
                self.assertTrue(alike(thing, kept), (at, place))
        # Nearly each call is answered for some thing.
        self.assertGreaterEqual(len(answered), len(ASKED) - 1)

    def test_truths_themselves(self):
        for thing in any_things(2, 60):
            for told in [is_root(thing), is_number(thing), is_laying(2, thing), is_net(thing), is_plan(thing, 3),
                         is_bar(2, (ONE,), num(0, 1), thing), holds(2, (ONE,), thing, ("plan", A)),
                         holds(2, (ONE,), ("laid", ONE), thing)]:
                self.assertIn(told.__class__, (bool,))


class ToldAgainTest(unittest.TestCase):
    """What was told is handed in again where its kind is due, whatever its size."""

    def test_great_plans_and_bars(self):
        great = num(TWO_THOUSAND, TWO_THOUSAND - 7, TWO_THOUSAND + 2)
        laid = 0
        for d in (2, 13):
            for kinds in [(num(FORTY, 3, 7),), (num(7, FORTY, FORTY - 2),), (num(FORTY, 3, 7), num(1, FORTY))]:
                word, thing = wish_told(d, kinds, great)
                if word == "bar":
                    self.assertIs(is_bar(d, kinds, great, thing), True)
                    self.assertIs(holds(d, kinds, ("barred", great), thing), True)
                    weighed(d, thing[1], thing[0], times(d, great, thing[0]))
                else:
                    laid += 1
                    self.assertEqual(shape_of(d, kinds, thing), great)
                    self.assertEqual(mate_shape(d, kinds, thing), mate(great))
                    self.assertIs(holds(d, kinds, ("laid", great), ("plan", thing)), True)
                    self.assertEqual(show_plan(thing)[:1] in "(~0123456789abc", True)
                    self.assertGreater(count_of(thing), 10 ** 100)
                    tile = tile_at(d, kinds, thing, ZERO, ZERO)
                    self.assertEqual(tile_at(d, kinds, thing, tile[0], tile[1]), tile)
        self.assertGreater(laid, 1)

    def test_mixtures(self):
        kind, shape = num(3, 1, 7), num(TWO_THOUSAND, 1, TWO_THOUSAND - 4)
        word, u, v = mixture_of(2, kind, shape)
        self.assertEqual(shape_of(2, (kind,), plan_of_mixture(u, v, 0)), shape)
        self.assertIs(holds(2, (kind,), ("mixed", 0, shape), (u, v)), True)
        for x in (u, v, times(2, u, shape), over(2, v, shape)):
            self.assertEqual(plus(x, x), times(2, x, num(2)))
            self.assertRegex(show_number(x), r"\A[-+0-9r/()]+\Z")

    def test_layings(self):
        kinds = (num(FORTY, FORTY - 1, 7), num(3, 0, FORTY))
        plan = ("beside", (PLAN, ("upon", (("turn", ("kind", 1)), PLAN)), ("kind", 1)))
        laying = laid_out(2, kinds, plan, num(1, FORTY))
        self.assertIs(is_laying(2, laying), True)
        self.assertIs(is_by(2, laying, kinds), True)
        self.assertIs(is_laying(2, turned(2, mirrored(2, laying))), True)
        self.assertIs(is_net(net_of(2, laying)), True)
        self.assertIs(holds(2, kinds, ("laid", over(2, laying[1], laying[0])), ("laying", laying)), True)
        floor, tiles = weighed_sums(2, WEIGHTS, laying)
        total = ZERO
        for tile in tiles:
            total = plus(total, tile)
        self.assertEqual(total, floor)


class TogetherTest(unittest.TestCase):
    def test_never_both(self):
        for d in ROOTS:
            for kinds in kinds_of_one_sign(d)[::3] + kinds_of_both_signs(d)[::3]:
                for shape in some_shapes(d, 5 * d, 2, 1) + some_shapes(d, 5 * d, 2, -1):
                    word, thing = wish_told(d, kinds, shape)
                    by_one = [mixture_of(d, kind, shape) for kind in kinds]
                    for told in by_one:
                        if word == "bar":
                            self.assertEqual(told[0], "bar")
                        elif told[0] == "bar":
                            self.assertIs(is_bar(d, kinds, shape, told[1]), False)

    def test_widths_are_streams_and_heights_falls(self):
        for d in ROOTS[::4]:
            kinds = (num(1, 1), num(3, 0, 2))
            plan = ("upon", (A, ("beside", (A, ("turn", ("kind", 1)), ("upon", (A, ("kind", 1)))))))
            laying = laid_out(d, kinds, plan, num(2, 1))
            net = net_of(d, laying)
            streams, heights = streams_of(d, net, laying[0])
            self.assertEqual(streams, [tile[2] for tile in laying[2]])
            self.assertEqual([heights[upper] for lower, upper, shape in net[1]],
                             [plus(tile[1], tile[3]) for tile in laying[2]])
            mates = streams_of(d, mate_net(net), mate(laying[0]))
            self.assertEqual(mates, ([mate(x) for x in streams], [mate(x) for x in heights]))


if __name__ == "__main__":
    unittest.main()
