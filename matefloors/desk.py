"""A desk: kinds by letters and wishes by names, told and asked in rows of words."""

from matefloors.errors import NoName, NoRoot, NoSaying
from matefloors.leaning import lean_fraction
from matefloors.numbers import is_root, must_be_above_nought
from matefloors.plans import tiles_in
from matefloors.texts import LETTERS, plan_text, read_number, show_number, show_whole
from matefloors.wishes import is_laid, wish_told

ROWS = {
    "kind": ("LETTER", "NUMBER"),
    "drop": ("LETTER",),
    "wish": ("NAME", "NUMBER"),
    "gone": ("NAME",),
    "wishes": (),
    "plan": ("NAME",),
    "count": ("NAME",),
    "kinds": (),
    "lean": ("NUMBER",),
}
NAME_SIGNS = "abcdefghijklmnopqrstuvwxyz"
MOST_NAME_SIGNS = 8


def words_of(row):
    """Tell the words of any thing that is one of the rows, whatever stands in its numbers' places."""
    if not isinstance(row, str):
        raise NoSaying("this is no text")
    words = row.split(" ")
    if words[0] not in ROWS or len(words) != 1 + len(ROWS[words[0]]):
        raise NoSaying("this is none of the rows")
    for form, word in zip(ROWS[words[0]], words[1:]):
        if form == "LETTER" and word not in LETTERS:
            raise NoSaying("a kind's letter is a, b or c")
        if form == "NAME" and not is_name(word):
            raise NoSaying("a name has one to eight letters a to z")
    return words


def is_name(word):
    """Tell whether a word is a name."""
    return 1 <= len(word) and len(word) <= MOST_NAME_SIGNS and all([sign in NAME_SIGNS for sign in word])


def signed_name(name, laid):
    """Tell the name with its sign ahead."""
    return ("+" if laid else "-") + name


def listed(texts):
    """Tell the texts with blanks between, or that there are none."""
    return " ".join(texts) if texts else "none"


def with_places(plan, places):
    """Tell the plan with each kind's place changed for another one."""
    word = plan[0]
    if word == "kind":
        return ("kind", places[plan[1]])
    if word == "turn":
        return ("turn", with_places(plan[1], places))
    if word == "grid":
        return ("grid", plan[1], plan[2], with_places(plan[3], places))
    return (word, tuple([with_places(part, places) for part in plan[1]]))


class Desk:
    """Kinds, wishes, and which of these are laid by those."""

    def __init__(self, d):
        if not is_root(d):
            raise NoRoot("this is no root")
        self.root = d
        self.kinds = {}
        self.shapes = {}
        self.laid = {}

    def say(self, row):
        """Take a row of words, and tell the answer."""
        words = words_of(row)
        has_number = "NUMBER" in ROWS[words[0]]
        x = read_number(words[-1]) if has_number else None
        if words[0] == "drop" and words[1] not in self.kinds:
            raise NoName("no kind stands by this letter")
        if words[0] in ("gone", "plan", "count") and words[1] not in self.shapes:
            raise NoName("no wish stands by this name")
        if has_number:
            must_be_above_nought(self.root, x)
        return self.answer(words, x)

    def answer(self, words, x):
        """Tell the answer to a row in which nothing is to be refused."""
        word = words[0]
        if word == "kind":
            return self.put_kind(words[1], x)
        if word == "drop":
            return self.drop_kind(words[1])
        if word == "wish":
            return self.put_wish(words[1], x)
        if word == "gone":
            return self.drop_wish(words[1])
        if word == "plan":
            return self.told_plan(words[1])
        if word == "count":
            return self.told_count(words[1])
        if word == "lean":
            return show_number(lean_fraction(self.root, x))
        if word == "kinds":
            return listed([f"{letter}={show_number(self.kinds[letter])}" for letter in sorted(self.kinds)])
        return listed([signed_name(name, self.laid[name]) for name in sorted(self.laid)])

    def put_kind(self, letter, kind):
        """Let the kind stand by the letter."""
        self.kinds[letter] = kind
        return self.turned_wishes()

    def drop_kind(self, letter):
        """Let no kind stand by the letter."""
        self.kinds.pop(letter)
        return self.turned_wishes()

    def turned_wishes(self):
        """Reckon all wishes anew, and tell those that turned."""
        turned = []
        for name in sorted(self.shapes):
            laid = self.is_laid_now(self.shapes[name])
            if laid != self.laid[name]:
                self.laid[name] = laid
                turned.append(signed_name(name, laid))
        return listed(turned)

    def kinds_in_order(self):
        """Tell the kinds that stand, in the order of their letters."""
        return tuple([self.kinds[letter] for letter in sorted(self.kinds)])

    def is_laid_now(self, shape):
        """Tell whether the kinds that stand lay the shape; with none of them nothing is laid."""
        kinds = self.kinds_in_order()
        return len(kinds) > 0 and is_laid(self.root, kinds, shape)

    def put_wish(self, name, shape):
        """Let the wish stand by the name."""
        self.shapes[name] = shape
        self.laid[name] = self.is_laid_now(shape)
        return "laid" if self.laid[name] else "barred"

    def drop_wish(self, name):
        """Let no wish stand by the name."""
        self.shapes.pop(name)
        self.laid.pop(name)
        return "ok"

    def plan_of_wish(self, name):
        """Tell the plan of a wish that is laid, its kinds' places those of the letters."""
        plan = wish_told(self.root, self.kinds_in_order(), self.shapes[name])[1]
        return with_places(plan, [LETTERS.index(letter) for letter in sorted(self.kinds)])

    def told_plan(self, name):
        """Tell the wish's plan as a text, or that it is barred."""
        return plan_text(self.plan_of_wish(name)) if self.laid[name] else "barred"

    def told_count(self, name):
        """Tell how many tiles the wish's plan has, or that it is barred."""
        return show_whole(tiles_in(self.plan_of_wish(name))) if self.laid[name] else "barred"
