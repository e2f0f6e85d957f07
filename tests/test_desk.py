"""Point 24: a desk, told and asked in rows of words."""

import copy
import random
import re
import unittest

from matefloors.desk import Desk
from matefloors.errors import FloorError, NoName, NoNumber, NoRoot, NoSaying, NoText
from matefloors.leaning import lean_fraction
from matefloors.plans import count_of, shape_of
from matefloors.texts import read_plan, show_number
from tests.lay_samples import rank
from tests.samples import FORTY, NO_NUMBERS, PINWHEEL, ROOTS, num
from tests.test_texts import FIGURES_40, FIGURES_41, number_by_form
from tests.wish_samples import lays

LETTER, NAME = re.compile("[abc]"), re.compile("[a-z]{1,8}")
FORMS = {"kind": (LETTER, None), "drop": (LETTER,), "wish": (NAME, None), "gone": (NAME,), "wishes": (),
         "plan": (NAME,),
         "count": (NAME,), "kinds": (), "lean": (None,)}
NAMES = ["a", "b", "c", "ab", "abc", "abcdefgh", "kind", "wish", "wishes", "none", "z", "barred", "laid", "r", "ok"]
NUMBERS = ["1", "2", "1/3", "r", "r/2", "1+r", "2+r", "(1+r)/2", "7-r", "9-2r", "(10-r)/3", "12+5r", "3r/7", "5+r"]
BAD_NUMBERS = ["", "0", "-1", "-r", "1-9r", "01", "2/4", "1r", "x", "+1", FIGURES_41, "1/0"]


class Model:
    """What a desk has to answer, by point 24's words; of a plan whether it is laid alone."""

    def __init__(self, d):
        self.d, self.kinds, self.wishes = d, {}, {}

    def laid(self, name):
        return bool(self.kinds) and lays(self.d, tuple(self.kinds.values()), self.wishes[name])

    def states(self):
        return {name: self.laid(name) for name in self.wishes}

    def refusal(self, row):
        """The refusal that is due, or None."""
        words = row.split(" ")
        form = FORMS.get(words[0])
        if form is None or len(words) != len(form) + 1:
            return NoSaying
        if any(part and not part.fullmatch(word) for part, word in zip(form, words[1:])):
            return NoSaying
        number = number_by_form(words[-1]) if None in form else num(1)
        if number is None:
            return NoText
        if words[0] == "drop" and words[1] not in self.kinds:
            return NoName
        if words[0] in ("gone", "plan", "count") and words[1] not in self.wishes:
            return NoName
        return NoNumber if rank(self.d, number, num(0)) <= 0 else None

    def changed(self, before):
        after = self.states()
        return self.listed({name: after[name] for name in after if after[name] != before[name]})

    def listed(self, states):
        return " ".join(("+" if states[name] else "-") + name for name in sorted(states)) or "none"

    def answer(self, row):
        words = row.split(" ")
        before = self.states()
        if words[0] == "kind":
            self.kinds[words[1]] = number_by_form(words[2])
            return self.changed(before)
        if words[0] == "drop":
            del self.kinds[words[1]]
            return self.changed(before)
        if words[0] == "wish":
            self.wishes[words[1]] = number_by_form(words[2])
            return "laid" if self.laid(words[1]) else "barred"
        if words[0] == "gone":
            del self.wishes[words[1]]
            return "ok"
        if words[0] == "wishes":
            return self.listed(before)
        if words[0] == "kinds":
            standing = [letter for letter in "abc" if letter in self.kinds]
            return " ".join(f"{letter}={show_number(self.kinds[letter])}" for letter in standing) or "none"
        if words[0] == "lean":
            return show_number(lean_fraction(self.d, number_by_form(words[1])))
        return None if self.laid(words[1]) else "barred"


def some_row(chance):
    word = chance.choice(["kind", "kind", "kind", "wish", "wish", "wish", "drop", "drop", "gone", "wishes", "plan",
                          "plan",
                          "count", "kinds", "lean"])
    words = [word]
    for part in FORMS[word]:
        words.append(chance.choice("abc" if part is LETTER else NAMES if part is NAME else NUMBERS))
    if chance.random() < 0.15:
        # Something wrong in one or two places.
        for turn in range(chance.randint(1, 2)):
            at = chance.randrange(len(words))
            words[at] = chance.choice(BAD_NUMBERS + ["d", "A", "abcdefghi", "Kind", "a1", ""])
    if chance.random() < 0.04:
        words.insert(chance.randrange(len(words) + 1), "")
    return " ".join(words)


class DeskCase(unittest.TestCase):
    def said(self, desk, *rows):
        for row, wanted in rows:
            with self.subTest(row):
                answer = desk.say(row)
                self.assertEqual(answer, wanted)
                self.assertIs(answer.__class__, str)

    def refused(self, desk, row, error):
        before = self.all_of(desk)
        kept = copy.deepcopy(row)
        with self.assertRaises(FloorError) as taken:
            desk.say(row)
        self.assertIs(taken.exception.__class__, error, row)
        self.assertEqual(row, kept)
        self.assertEqual(self.all_of(desk), before)

    def all_of(self, desk):
        """All that a desk tells of itself."""
        wishes = desk.say("wishes")
        names = [] if wishes == "none" else [name[1:] for name in wishes.split(" ")]
        return [desk.say("kinds"), wishes] + [desk.say(word + name) for name in names for word in ("plan ", "count ")]


class RowsTest(DeskCase):
    def check_plan(self, model, desk, name):
        """The plan lays the wish by the letters that stand; the count is that plan's."""
        plan = read_plan(desk.say("plan " + name))
        letters = set(re.findall("[abc]", desk.say("plan " + name)))
        self.assertTrue(letters <= set(model.kinds))
        kinds = tuple(model.kinds.get(letter, num(FORTY)) for letter in "abc")
        self.assertEqual(shape_of(model.d, kinds, plan), model.wishes[name])
        self.assertEqual(desk.say("count " + name), str(count_of(plan)))
        self.assertEqual(read_plan(desk.say("plan " + name)), plan)

    def test_a_new_desk(self):
        desk = Desk(2)
        self.said(desk, ("kinds", "none"), ("wishes", "none"), ("lean 1", "4"))
        for row in ("drop a", "drop b", "drop c", "gone a", "plan a", "count a", "plan wishes"):
            self.refused(desk, row, NoName)

    def test_each_row(self):
        self.said(Desk(2), ("wish floor 1+r", "barred"), ("wishes", "-floor"), ("kind a 2+r", "none"),
                  ("kinds", "a=2+r"), ("wish x 3", "laid"), ("wishes", "-floor +x"), ("kind c 1+r", "+floor"),
                  ("kinds", "a=2+r c=1+r"), ("wishes", "+floor +x"), ("drop a", "-x"), ("plan floor", "c"),
                  ("count floor", "1"), ("plan x", "barred"), ("count x", "barred"), ("gone floor", "ok"),
                  ("wishes", "-x"), ("drop c", "none"), ("kinds", "none"), ("gone x", "ok"), ("wishes", "none"))

    def test_kind(self):
        self.said(Desk(2), ("wish b 1", "barred"), ("wish a 2", "barred"), ("wish r r", "barred"),
                  ("wish ab 3r", "barred"),
                  ("kind b 7", "+a +b"), ("kind b 7/3", "none"), ("kind b 5r", "-a +ab -b +r"),
                  ("kind b 1", "+a -ab +b -r"), ("kind a r/9", "+ab +r"), ("kind c (1+r)/2", "none"),
                  ("drop b", "-a -b"),
                  ("drop a", "none"), ("kind c r", "none"), ("drop c", "-ab -r"),
                  ("kind c r", "+ab +r"))

    def test_wish(self):
        self.said(Desk(2), ("kind a 1", "none"), ("wish x 1", "laid"), ("wish x r", "barred"), ("wishes", "-x"),
                  ("wish x 2", "laid"), ("wishes", "+x"), ("kind a r", "-x"), ("wish x r", "laid"), ("kind a 1", "-x"),
                  ("gone x", "ok"), ("kind a r", "none"), ("wish x r/2", "laid"), ("wishes", "+x"))

    def test_the_order_of_names(self):
        desk = Desk(2)
        for name in ["wish", "b", "abc", "a", "ab", "zz", "none", "abcdefgh", "c", "aa", "plan"]:
            self.said(desk, (f"wish {name} 1", "barred"))
        ordered = ["a", "aa", "ab", "abc", "abcdefgh", "b", "c", "none", "plan", "wish", "zz"]
        self.said(desk, ("wishes", " ".join("-" + name for name in ordered)),
                  ("kind a 5", " ".join("+" + name for name in ordered)),
                  ("wishes", " ".join("+" + name for name in ordered)),
                  ("drop a", " ".join("-" + name for name in ordered)))

    def test_names_that_are_words_or_beginnings(self):
        desk = Desk(2)
        self.said(desk, ("kind a 1", "none"), ("wish wish 1", "laid"), ("wish kind r", "barred"),
                  ("wish none 2", "laid"),
                  ("wish w 3", "laid"), ("wish wi r", "barred"), ("plan wish", "a"), ("plan kind", "barred"),
                  ("plan none", "1x2[a]"), ("count w", "3"), ("gone w", "ok"), ("wishes", "-kind +none -wi +wish"),
                  ("gone wish", "ok"), ("wishes", "-kind +none -wi"), ("gone none", "ok"), ("wishes", "-kind -wi"))

    def test_plan_and_count(self):
        # By one kind the plan is that of the mixture.
        desk = Desk(2)
        self.said(desk, ("wish x (1+3r)/2", "barred"), ("kind b 1+r", "+x"), ("plan x", "(b/2x1[~b])"),
                  ("count x", "3"))
        for letter, other in (("a", "b"), ("b", "c"), ("c", "a")):
            desk = Desk(2)
            self.said(desk, (f"kind {letter} 1+r", "none"), ("wish x (1+3r)/2", "laid"),
                      ("plan x", f"({letter}/2x1[~{letter}])"), ("wish y 1", "barred"), (f"kind {other} 2", "+y"))
            model = Model(2)
            model.kinds = {letter: num(1, 1), other: num(2)}
            model.wishes = {"x": num(1, 3, 2), "y": num(1)}
            self.check_plan(model, desk, "x")
            self.check_plan(model, desk, "y")

    def test_plan_with_letters_left_out(self):
        for d in ROOTS[::3]:
            for first, second in (("a", "c"), ("b", "c"), ("c", "b"), ("c", "a")):
                desk, model = Desk(d), Model(d)
                for row in (f"kind {first} 3r", f"kind {second} 5/7", "wish x 12+5r", "wish y (10-r)/3", "wish z 2"):
                    self.said(desk, (row, model.answer(row)))
                for name in "xyz":
                    self.check_plan(model, desk, name)

    def test_kinds(self):
        self.said(Desk(3), ("kind c 1/2", "none"), ("kinds", "c=1/2"), ("kind a (1+2r)/3", "none"),
                  ("kinds", "a=(1+2r)/3 c=1/2"), ("kind b r", "none"), ("kinds", "a=(1+2r)/3 b=r c=1/2"),
                  ("kind a 2-r", "none"), ("kinds", "a=2-r b=r c=1/2"), ("drop b", "none"), ("kinds", "a=2-r c=1/2"),
                  ("drop a", "none"), ("drop c", "none"), ("kinds", "none"), ("kind a r/3", "none"), ("kinds", "a=r/3"))

    def test_lean(self):
        self.said(Desk(2), ("lean 1", "4"), ("lean r", "0"), ("lean 2+r", "8"), ("lean 1+r", "-4"),
                  ("lean 3+r", "36/7"),
                  ("lean (2+r)/7", "8"), ("lean 2-r", "8"))
        self.said(Desk(5), ("lean (1+r)/2", "-1"))
        desk = Desk(7)
        for text in NUMBERS:
            number = number_by_form(text)
            if rank(7, number, num(0)) > 0:
                self.said(desk, ("lean " + text, show_number(lean_fraction(7, number))))

    def test_forty_figures(self):
        desk = Desk(2)
        great = f"({FIGURES_40}+{FIGURES_40[:-1]}r)/{10 ** 39 + 7}"
        self.said(desk, ("wish x 1", "barred"))
        self.assertIn(desk.say("kind a " + great), ("+x", "none"))
        self.said(desk, ("kind b r", "+x" if desk.say("wishes") == "-x" else "none"), ("kinds", f"a={great} b=r"))
        self.assertRegex(desk.say("plan x"), r"\A[0-9abx/|~()\[\]]+\Z")
        self.assertRegex(desk.say("count x"), r"\A[1-9][0-9]*\Z")
        self.said(desk, (f"wish y 1/{'9' * 40}", "laid"), (f"wish z {FIGURES_40}+r", "laid"))
        for name in "xyz":
            text = desk.say("plan " + name)
            self.assertEqual(desk.say("count " + name), str(self.tiles_by_text(text)))
        for row in (f"kind c {FIGURES_41}", f"wish w 1/{FIGURES_41}", f"lean {FIGURES_41}r"):
            self.refused(desk, row, NoText)

    def tiles_by_text(self, text):
        """How many tiles a plan has, by its text's grids and letters."""
        summed = re.sub(r"(\d+)x(\d+)\[", r"\1*\2*(", text).replace("]", ")").replace("~", "")
        return eval(re.sub("[abc]", "1", summed).replace("/", "+").replace("|", "+"))

    def test_asked_again(self):
        desk = Desk(5)
        for row in ("kind a (1+r)/2", "kind c 2", "wish x 12+5r", "wish y r/7", "wish zero 1"):
            desk.say(row)
        first = self.all_of(desk)
        for turn in range(3):
            self.assertEqual(self.all_of(desk), first)
        self.said(desk, ("kind b 3", "none"), ("drop b", "none"))
        self.assertEqual(self.all_of(desk), first)

    def test_in_many_orders(self):
        for seed in range(60):
            chance = random.Random(seed)
            d = ROOTS[seed % len(ROOTS)]
            desks = [(Desk(d), Model(d)), (Desk(ROOTS[seed // 3]), Model(ROOTS[seed // 3]))]
            for turn in range(80):
                desk, model = chance.choice(desks)
                row = some_row(chance)
                error = model.refusal(row)
                if error:
                    self.refused(desk, row, error)
                    continue
                wanted = model.answer(row)
                if wanted is None:
                    self.check_plan(model, desk, row.split(" ")[1])
                else:
                    self.assertEqual(desk.say(row), wanted, row)

    def test_kinds_put_anew_dropped_and_put_again(self):
        desk, model = Desk(2), Model(2)
        for name, text in zip(NAMES, NUMBERS):
            self.said(desk, (f"wish {name} {text}", "barred"))
            model.wishes[name] = number_by_form(text)
        for letter in "abcabc":
            for text in NUMBERS:
                row = f"kind {letter} {text}"
                self.said(desk, (row, model.answer(row)))
                if text == "2+r":
                    for again in (f"drop {letter}", row):
                        self.said(desk, (again, model.answer(again)))
        for row in ("drop b", "drop a", "drop c"):
            self.said(desk, (row, model.answer(row)))
        self.said(desk, ("wishes", " ".join("-" + name for name in sorted(model.wishes))))


class RefusalsTest(DeskCase):
    def full_desk(self):
        desk = Desk(2)
        for row in ("kind a 1+r", "wish x r", "wish y 1", "wish kind 3"):
            desk.say(row)
        return desk

    def test_no_saying(self):
        desk = self.full_desk()
        for row in ["", " ", "  ", "a", "x", "Kind a 1", "KINDS", "kinds.", "kinds a", "wishes x", "wishes none",
                    "kind",
                    "kind a", "kind 1", "kind a 1 1", "kind a b 1", "kind d 1", "kind A 1", "kind ab 1", "kind 1 a",
                    "kind = 1", "drop", "drop d", "drop a b", "drop x", "drop A", "wish", "wish x", "wish 1",
                    "wish x 1 1",
                    "wish X 1", "wish x1 1", "wish abcdefghi 1", "wish x-y 1", "wish x_y 1", "gone", "gone x y",
                    "gone X",
                    "gone abcdefghi", "plan", "plan x y", "plan 1", "plan +x", "count", "count x 1", "count x,y",
                    "lean",
                    "lean a 1", "lean 1 1", "put a 1", "lay x", "none", "help", "kind\ta\t1", "kind a\n1", "kinds\n",
                    "wishes;", "x" * 1200, "wish " + "a" * 1100 + " 1"]:
            with self.subTest(row[:40]):
                self.refused(desk, row, NoSaying)

    def test_no_texts(self):
        desk = self.full_desk()
        for thing in NO_NUMBERS + [num(1), PINWHEEL, ["kinds"], ("kinds",), b"kinds", ("kind", "a", "1"), 7]:
            self.refused(desk, thing, NoSaying)

    def test_blanks(self):
        desk = self.full_desk()
        for row, error in [("kind a ", NoText), ("wish x ", NoText), ("lean ", NoText), ("kind  1", NoSaying),
                           ("wish  1", NoSaying), ("kind a  ", NoSaying), ("kind a  1", NoSaying),
                           ("kind a 1 ", NoSaying),
                           ("kind  a 1", NoSaying), (" kind a 1", NoSaying), ("wish x  1", NoSaying),
                           ("wish x 1 ", NoSaying), ("lean 1 ", NoSaying), ("lean  1", NoSaying), ("lean  ", NoSaying),
                           (" lean 1", NoSaying), ("kinds ", NoSaying), (" kinds", NoSaying), ("wishes ", NoSaying),
                           ("drop ", NoSaying), ("drop a ", NoSaying), ("drop  a", NoSaying), ("gone ", NoSaying),
                           ("gone x ", NoSaying), ("plan ", NoSaying), ("plan x ", NoSaying), ("plan  x", NoSaying),
                           ("count ", NoSaying), ("count x ", NoSaying), ("kind ", NoSaying), ("wish ", NoSaying)]:
            with self.subTest(row):
                self.refused(desk, row, error)

    def test_no_text(self):
        desk = self.full_desk()
        for text in ["x", "01", "1r", "-0", "+1", "2/4", "1/0", "(1)", "1+r/2", "--1", "0r", "1.5", FIGURES_41, "a=1",
                     "r+1"]:
            for row in ("kind b ", "kind a ", "wish z ", "wish x ", "lean "):
                self.refused(desk, row + text, NoText)

    def test_no_name(self):
        desk = self.full_desk()
        for row in ["drop b", "drop c", "gone z", "gone a", "gone xy", "gone wish", "plan z", "plan kinds", "plan a",
                    "count z", "count kin", "count kindx"]:
            self.refused(desk, row, NoName)
        self.assertEqual(desk.say("drop a"), "-x")
        self.refused(desk, "drop a", NoName)
        self.assertEqual(desk.say("gone x"), "ok")
        for row in ("gone x", "plan x", "count x"):
            self.refused(desk, row, NoName)

    def test_no_number(self):
        desk = self.full_desk()
        for text in ["0", "-1", "-r", "1-r", "-1/2", "(1-r)/3", "7-5r", "-" + FIGURES_40]:
            for row in ("kind b ", "kind a ", "wish z ", "wish x ", "lean "):
                self.refused(desk, row + text, NoNumber)
        # What is above 0 hangs on the root.
        self.assertEqual(Desk(3).say("lean -3+2r"), show_number(lean_fraction(3, num(-3, 2))))
        self.refused(desk, "lean -3+2r", NoNumber)

    def test_two_faults(self):
        desk = self.full_desk()
        for row, error in [("kind d x", NoSaying), ("kind d 0", NoSaying), ("kind d", NoSaying),
                           ("wish X 01", NoSaying),
                           ("wish X -1", NoSaying), ("wish abcdefghi x", NoSaying), ("drop d", NoSaying),
                           ("gone Z", NoSaying), ("plan Z", NoSaying), ("kind  x", NoSaying), ("kind a x y", NoSaying),
                           ("lean x y", NoSaying), ("kind a -0", NoText), ("wish x -01", NoText), ("lean -2/4", NoText),
                           ("lean -" + FIGURES_41, NoText), ("drop b c", NoSaying), ("gone z z", NoSaying)]:
            with self.subTest(row):
                self.refused(desk, row, error)

    def test_no_root(self):
        for thing in [thing for thing in NO_NUMBERS if thing is True or thing != 2] + [
                -2, 0, 1, 4, 9, 16, 25, 31, 32, 36, 100, FORTY, num(2), "2", [2], (2,), 2.0]:
            kept = copy.deepcopy(thing)
            with self.assertRaises(FloorError) as taken:
                Desk(thing)
            self.assertIs(taken.exception.__class__, NoRoot)
            self.assertEqual(thing, kept)
        for d in ROOTS:
            self.assertEqual(Desk(d).say("kinds"), "none")

    def test_other_desks_are_not_changed(self):
        one, other = self.full_desk(), self.full_desk()
        before = self.all_of(other)
        for row in ("kind b r/2", "wish z 4", "gone y", "drop a"):
            one.say(row)
        self.refused(one, "drop a", NoName)
        self.assertEqual(self.all_of(other), before)


if __name__ == "__main__":
    unittest.main()
