"""Point 12: what is a plan, of any thing."""

import copy
import unittest

from matefloors.plans import is_plan
from tests.plan_samples import A, SORTS, all_paths, at_path, chain_of, inner_plans, plan_of, put_at, size_of, some_plan
from tests.samples import FORTY, NO_NUMBERS, PINWHEEL, num

ODD = NO_NUMBERS + [num(1), num(0, 1), PINWHEEL, 3, -1, "kind", "a", "a|b", ("kind",), ["kind", 0], ("KIND", 0)]


class IsPlanTest(unittest.TestCase):
    def check(self, thing, many, wanted):
        self.assertIs(is_plan(thing, many), wanted)

    def for_all(self, thing, wanted):
        for many in (1, 2, 3):
            self.check(thing, many, wanted)

    def test_each_sort(self):
        for plan in SORTS:
            self.for_all(plan, True)

    def test_the_kinds_place(self):
        for many in (1, 2, 3):
            for place in range(-3, 6):
                wanted = 0 <= place < many
                self.check(("kind", place), many, wanted)
                for plan in [("turn", ("kind", place)), ("upon", (A, ("kind", place))),
                             ("beside", (("kind", place), A)), ("grid", 2, 3, ("kind", place)),
                             ("upon", (A, A, ("beside", (A, ("turn", ("kind", place)))), A))]:
                    self.check(plan, many, wanted)
        for odd in [thing for thing in ODD if thing is True or thing is False or thing not in (0, 1, 2)] + [FORTY]:
            self.for_all(("kind", odd), False)
            self.for_all(("turn", ("kind", odd)), False)

    def test_two_to_eight_parts(self):
        for sort in ("upon", "beside"):
            for parts in range(12):
                self.for_all((sort, (A,) * parts), 2 <= parts <= 8)
                self.for_all(("turn", (sort, (A,) * parts)), 2 <= parts <= 8)
            self.for_all((sort, (A,) * 2000), False)
            self.for_all((sort, A), False)
            self.for_all((sort, A, A), False)
            self.for_all((sort, [A, A]), False)
            self.for_all((sort, ((A, A),)), False)

    def test_the_grids_counts(self):
        great = [1, 2, FORTY, 10 ** 59 + 1, 10 ** 60 - 1]
        for u in great:
            for v in great:
                self.for_all(("grid", u, v, A), True)
        wrong = [0, -1, -FORTY, True, False, None, "1", (), (1,), [1], (1, 0, 1), "", num(2)]
        for odd in wrong:
            self.for_all(("grid", odd, 1, A), False)
            self.for_all(("grid", 1, odd, A), False)
            self.for_all(("grid", odd, odd, A), False)
            self.for_all(("turn", ("grid", 2, odd, A)), False)

    def test_twelve_within_one_another(self):
        for sort in ("turn", "grid", "upon", "beside"):
            for depth in range(1, 20):
                plan = chain_of(depth, sort)
                self.assertEqual(size_of(plan)[1], depth)
                self.for_all(plan, depth <= 12)
        # The deep one first, in the middle, last.
        for depth in (11, 12):
            deep = chain_of(depth, "turn")
            for parts in [(deep, A), (A, deep), (A, deep, A), (A,) * 7 + (deep,), (deep,) + (A,) * 7]:
                self.for_all(("upon", parts), depth == 11)
                self.for_all(("beside", parts), depth == 11)

    def test_all_sorts_within_one_another(self):
        plan = A
        for depth in range(2, 16):
            plan = [("turn", plan), ("upon", (A, plan)), ("grid", 2, 2, plan), ("beside", (plan, A, A))][depth % 4]
            self.for_all(plan, depth <= 12)

    def test_sixty_in_all(self):
        for many in range(1, 90):
            plan = plan_of(many)
            self.assertEqual(size_of(plan)[0], many)
            self.for_all(plan, many <= 60)

    def test_the_same_plan_counted_twice(self):
        same = plan_of(10)
        self.for_all(("upon", (same,) * 5), True)
        self.for_all(("upon", (same,) * 6), False)
        self.for_all(("upon", (same,) * 5 + (plan_of(9),)), True)
        self.for_all(("beside", (plan_of(29), plan_of(29))), True)
        self.for_all(("turn", ("beside", (plan_of(29), plan_of(29)))), True)
        self.for_all(("turn", ("turn", ("beside", (plan_of(29), plan_of(29))))), False)
        half = plan_of(30)
        self.for_all(("beside", (half, half)), False)
        self.for_all(("beside", (plan_of(29), half)), True)

    def test_many_figures_do_not_count(self):
        self.for_all(("grid", 10 ** 59, 10 ** 59, plan_of(59)), True)
        self.for_all(("grid", 1, 1, plan_of(60)), False)

    def test_quickly_told(self):
        for sort in ("upon", "beside"):
            plan, odd = A, None
            for depth in range(39):
                plan, odd = (sort, (plan,) * 8), (sort, (odd,) * 8)
                self.for_all(plan, depth == 0)
                self.for_all(odd, False)
        plan = A
        for depth in range(2, 20):
            plan = (("upon", "beside")[depth % 2], (plan, plan))
            self.for_all(plan, 2 ** depth - 1 <= 60)
        for sort in ("turn", "grid"):
            for depth in (13, 38):
                self.for_all(chain_of(depth, sort), False)
        self.for_all(("upon", ((chain_of(39, "turn"),) * 8)), False)

    def test_other_words(self):
        for word in ["", "Kind", "KIND", "kinds", "kind ", " kind", "turned", "above", "uponn", "grids", "k", None,
                     True, False, 0, 1, "x" * 1200, ("kind",), ["kind"], ("turn",), ["turn"], (), []]:
            for rest in [(0,), (A,), ((A, A),), (1, 1, A), (2, 3, A)]:
                self.for_all((word,) + rest, False)

    def test_words_with_anothers_parts(self):
        rests = {"kind": (0,), "turn": (A,), "upon": ((A, A),), "beside": ((A, A),), "grid": (2, 3, A)}
        for word in rests:
            for other, rest in rests.items():
                alike = word == other or {word, other} == {"upon", "beside"}
                self.for_all((word,) + rest, alike)

    def test_a_part_too_many_or_too_few(self):
        for plan in SORTS:
            for path in all_paths(plan):
                inner = at_path(plan, path)
                if isinstance(inner, tuple) and isinstance(inner[0], str):
                    for other in [inner[:-1], inner[:1], inner + (0,), inner + (A,), inner + (None,), inner[1:],
                                  (inner,), (inner, inner)]:
                        self.for_all(put_at(plan, path, other), False)

    def test_lists_in_the_place_of_tuples(self):
        for plan in SORTS + [some_plan(seed, 3) for seed in range(10)]:
            for path in all_paths(plan):
                inner = at_path(plan, path)
                if isinstance(inner, tuple):
                    self.for_all(put_at(plan, path, list(inner)), False)

    def test_odd_things_at_any_place(self):
        plans = [A, ("turn", A), ("upon", (A, A)), ("beside", (A, ("turn", A), A)), ("grid", 3, 2, A),
                 ("turn", ("upon", (A, ("grid", 1, 4, ("beside", (A, A))))))]
        for plan in plans:
            for path in all_paths(plan):
                inner = at_path(plan, path)
                for odd in ODD:
                    if isinstance(inner, int) and isinstance(odd, int) and not isinstance(odd, bool):
                        continue
                    if odd == inner and odd is not True and odd is not False:
                        continue
                    thing = put_at(plan, path, odd)
                    kept = copy.deepcopy(thing)
                    self.check(thing, 3, False)
                    self.assertEqual(thing, kept)

    def test_any_thing(self):
        for thing in ODD + [[A], (A,), (A, A), [("kind", 0)], {}]:
            self.for_all(thing, False)

    def test_many(self):
        for seed in range(300):
            for many in (1, 2, 3):
                plan = some_plan(seed, many)
                used = max(place for word, place in kinds_in(plan))
                for others in (1, 2, 3):
                    self.check(plan, others, used < others)

    def test_beyond_the_bounds(self):
        for seed in range(60):
            plan = some_plan(1000 + seed, 3, most=200, deepest=18)
            many, depth = size_of(plan)
            self.check(plan, 3, many <= 60 and depth <= 12)


def kinds_in(plan):
    if plan[0] == "kind":
        return [plan]
    return [kind for part in inner_plans(plan) for kind in kinds_in(part)]


if __name__ == "__main__":
    unittest.main()
