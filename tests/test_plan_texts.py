"""Point 23: plans as texts."""

import itertools
import unittest

from matefloors.errors import FloorError, NoPlan, NoText
from matefloors.plans import is_plan
from matefloors.texts import read_plan, show_plan
from matefloors.wishes import wish_told
from tests.plan_samples import A, B, C, SORTS, chain_of, plan_of, some_plan
from tests.samples import FORTY, NO_NUMBERS, PINWHEEL, TWO_THOUSAND, num
from tests.test_plans import NO_PLANS

BY_HAND = [
    (A, "a"), (B, "b"), (C, "c"), (("turn", A), "~a"), (("turn", ("turn", B)), "~~b"), (("upon", (A, B)), "(a/b)"),
    (("upon", (A, B, C, A, B, C, A, B)), "(a/b/c/a/b/c/a/b)"), (("beside", (A, B)), "(a|b)"),
    (("beside", (C, ("turn", A), C)), "(c|~a|c)"), (("grid", 3, 2, A), "3x2[a]"), (("grid", 1, 1, C), "1x1[c]"),
    (("grid", 10, 200, ("turn", A)), "10x200[~a]"), (("turn", ("grid", 3, 2, A)), "~3x2[a]"),
    (("turn", ("upon", (A, B))), "~(a/b)"), (("grid", 2, 5, ("upon", (A, B))), "2x5[(a/b)]"),
    (("grid", 2, 5, ("grid", 7, 1, B)), "2x5[7x1[b]]"), (("upon", (("beside", (A, B)), C)), "((a|b)/c)"),
    (("beside", (("grid", 2, 2, A), ("upon", (B, ("turn", ("beside", (A, C))))))), "(2x2[a]|(b/~(a|c)))"),
]


def written(plan):
    """The text of a plan, written otherwise than the program does it."""
    if plan[0] == "kind":
        return {0: "a", 1: "b", 2: "c"}[plan[1]]
    if plan[0] == "turn":
        return "~" + written(plan[1])
    if plan[0] == "grid":
        return "%dx%d[%s]" % (plan[1], plan[2], written(plan[3]))
    text = ""
    for part in plan[1]:
        text += ("/" if plan[0] == "upon" else "|") + written(part)
    return "(" + text[1:] + ")"


def texts_of(length, known):
    """All texts of plans of that length made of the signs a, 0, 1, x and the rest, by those that are shorter."""
    found = {"a"} if length == 1 else set()
    if length > 1:
        found |= {"~" + text for text in known[length - 1]}
    for sign in "/|":
        for parts in itertools.chain(*[splits(length - 2, many) for many in range(2, 9)]):
            for choice in itertools.product(*[known.get(part, ()) for part in parts]):
                found.add("(" + sign.join(choice) + ")")
    for columns in ("1", "10", "11"):
        for rows in ("1", "10", "11"):
            for text in known.get(length - len(columns) - len(rows) - 3, ()):
                found.add(columns + "x" + rows + "[" + text + "]")
    return found


def splits(total, many):
    """Lengths of so many parts, with a sign between, that come to the total."""
    rest = total - (many - 1)
    if many == 1:
        return [(total,)] if total >= 1 else []
    return [(first,) + others for first in range(1, rest) for others in splits(total - first - 1, many - 1)]


class PlanTextsTest(unittest.TestCase):
    def refused(self, thing):
        with self.assertRaises(FloorError) as taken:
            read_plan(thing)
        self.assertIs(taken.exception.__class__, NoText)

    def test_each_form(self):
        for plan, text in BY_HAND:
            with self.subTest(text):
                self.assertEqual(show_plan(plan), text)
                self.assertEqual(read_plan(text), plan)
                self.assertIs(show_plan(plan).__class__, str)

    def test_read_back(self):
        for seed in range(200):
            plan = some_plan(seed, 3)
            text = show_plan(plan)
            self.assertEqual(text, written(plan))
            self.assertEqual(read_plan(text), plan)
        for plan in SORTS[:-1]:
            self.assertEqual(read_plan(show_plan(plan)), plan)

    def test_no_plan_is_shown(self):
        for thing in NO_PLANS:
            with self.subTest(str(thing)[:60]):
                with self.assertRaises(FloorError) as taken:
                    show_plan(thing)
                self.assertIs(taken.exception.__class__, NoPlan)

    def test_what_was_told_is_shown(self):
        for shape in (num(TWO_THOUSAND, 1, 7), num(1, TWO_THOUSAND, FORTY), num(TWO_THOUSAND ** 3, 5, 3)):
            word, plan = wish_told(2, (num(1), num(FORTY, FORTY - 2, 7), num(0, 1, FORTY)), shape)
            self.assertEqual(word, "plan")
            text = show_plan(plan)
            self.assertRegex(text, r"\A[0-9a-cx/|~()\[\]]+\Z")
            # It has whole numbers of more than forty figures, so it isn't read back.
            self.refused(text)

    def test_great_grids(self):
        great = 10 ** 39 + 7
        self.assertEqual(read_plan("%dx%d[a]" % (great, 10 ** 40 - 1)), ("grid", great, 10 ** 40 - 1, A))
        for columns, rows in [(10 ** 40, 1), (1, 10 ** 40), (10 ** 59 + 7, FORTY), (TWO_THOUSAND, 1)]:
            plan = ("grid", columns, rows, ("upon", (A, B)))
            self.assertEqual(show_plan(plan), "%dx%d[(a/b)]" % (columns, rows))
            self.refused(show_plan(plan))
            self.refused("(a/" + show_plan(plan) + ")")
        self.assertEqual(show_plan(("grid", 10 ** 9000, 3, A)), "1" + "0" * 9000 + "x3[a]")
        self.refused("1" + "0" * 9000 + "x3[a]")

    def test_parts(self):
        for sign, word in [("/", "upon"), ("|", "beside")]:
            for many in range(1, 12):
                text = "(" + sign.join(["a"] * many) + ")"
                if 2 <= many <= 8:
                    self.assertEqual(read_plan(text), (word, (A,) * many))
                else:
                    self.refused(text)
                self.refused("(" + text + ")")
                self.refused(text[1:])
                self.refused(text[:-1])
        for text in ["()", "(/)", "(a/)", "(/a)", "(a//b)", "(a|/b)", "(a/b|c)", "(a|b/c)", "(a/b/c|a)", "(a)",
                     "((a/b))",
                     "(a/(b))", "a/b", "a|b", "(a b)", "(ab)", "(a,b)", "[a/b]", "(a/b]", "(a/b))", "((a/b)",
                     "(a/b)(a/b)"]:
            self.refused(text)

    def test_turns(self):
        for text in ["~", "a~", "~~", "~(a)", "-a", "~ a", "~/a", "~]", "~x"]:
            self.refused(text)

    def test_grids(self):
        for text in ["0x1[a]", "1x0[a]", "0x0[a]", "01x1[a]", "1x01[a]", "00x1[a]", "1x[a]", "x1[a]", "x[a]", "1[a]",
                     "1x1", "1x1[]", "1x1[a", "1x1a]", "1x1(a)", "1x1[a]]", "1x1[[a]]", "1X1[a]", "1*1[a]", "-1x1[a]",
                     "1x-1[a]", "+1x1[a]", "1x+1[a]", "1 x1[a]", "1x1 [a]", "1x1[ a]", "1x1x1[a]", "2x3[a/b]",
                     "2x3[a|b]",
                     "1x1[a][a]", "1.0x1[a]", "1_0x1[a]", "r x1[a]", "ax1[a]", "1xa[a]", "1x1[d]", "\u0661x1[a]",
                     "1x\u00b2[a]", "[a]", "1x1[a]a", "1x1~[a]"]:
            with self.subTest(text):
                self.refused(text)

    def test_letters(self):
        for text in ["", "d", "A", "B", "k", "0", "1", "aa", "ab", " a", "a ", "a\n", "\na", "(a /b)", "kind", "a0",
                     "r", "%"]:
            with self.subTest(text):
                self.refused(text)

    def test_within_one_another(self):
        for sort in ("turn", "grid", "upon", "beside"):
            for depth in range(1, 12):
                plan = chain_of(depth, sort, B)
                self.assertEqual(read_plan(written(plan)), plan)
            self.assertEqual(read_plan(written(chain_of(12, sort))), chain_of(12, sort))
            for depth in (13, 14, 40, 200):
                self.refused(written(chain_of(depth, sort)))
                with self.assertRaises(NoPlan):
                    show_plan(chain_of(depth, sort))
        self.refused("~" * 11 + "(a/b)")
        self.assertEqual(read_plan("~" * 10 + "(a/b)")[0], "turn")
        self.refused("~" * 11 + "1x1[a]")

    def test_in_all(self):
        for many in range(1, 61):
            self.assertEqual(read_plan(written(plan_of(many))), plan_of(many))
        for many in (61, 62, 100, 400):
            self.refused(written(plan_of(many)))

    def test_very_long_texts(self):
        for text in ["~" * 1200, "(" * 1200, "(a/" * 400, "1x1[" * 300, "a/" * 600, "(" + "a/" * 598 + "a)", "1" * 1200,
                     "(" * 600 + ")" * 600, "~" * 100000, "(" * 100000, "(a|" * 30000, "1x1[" * 30000, "1x" * 50000,
                     "(" + "a/" * 50000 + "a)"]:
            self.refused(text)

    def test_no_texts(self):
        for thing in NO_NUMBERS + [num(1), PINWHEEL, A, ("turn", A), ["a"], ("a",), b"a", 7, [("kind", 0)],
                                   ("grid", 1, 1, A)]:
            self.refused(thing)

    def test_every_short_text(self):
        known = {}
        for length in range(1, 8):
            known[length] = texts_of(length, known)
        self.assertIn("1x1[~a]", known[7])
        for length in range(6):
            for signs in itertools.product("a~(/|)1x[]0", repeat=length):
                self.same("".join(signs), known)
        for signs in itertools.product("a~(/|)", repeat=6):
            self.same("".join(signs), known)
        for signs in itertools.product("a~1x[]0", repeat=6):
            self.same("".join(signs), known)

    def same(self, text, known):
        if text in known.get(len(text), ()):
            plan = read_plan(text)
            self.assertIs(is_plan(plan, 3), True)
            self.assertEqual(written(plan), text)
            self.assertEqual(show_plan(plan), text)
        else:
            self.refused(text)

    def test_one_sign_more_fewer_or_otherwise(self):
        for plan, text in BY_HAND:
            for at in range(len(text) + 1):
                for other in [text[:at] + text[at + 1:]] + [text[:at] + sign + text[end:] for sign in "ab~(/|)1x[]0 "
                                                            for end in (at, at + 1)]:
                    try:
                        found = read_plan(other)
                    except NoText:
                        continue
                    self.assertIs(is_plan(found, 3), True)
                    self.assertEqual(written(found), other)


if __name__ == "__main__":
    unittest.main()
