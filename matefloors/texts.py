"""Numbers and plans written as texts, and read from them."""

from matefloors.errors import NoText
from matefloors.layings import MOST_KINDS
from matefloors.numbers import number
from matefloors.plans import MOST_WITHIN, is_plan, must_be_plan

MOST_FIGURES = 40
FIGURES = "0123456789"
LETTERS = ("a", "b", "c")


def show_whole(k):
    """Tell the text of a whole number, of whatever many figures."""
    # Python writes only some thousand figures at once.
    block = 10 ** 64
    blocks = []
    rest = abs(k)
    while rest >= block:
        blocks.append(str(rest % block).zfill(64))
        rest = rest // block
    blocks.append(str(rest))
    blocks.reverse()
    return ("-" if k < 0 else "") + "".join(blocks)


def show_number(x):
    """Tell the text of a number."""
    a, b, c = x
    if b == 0:
        body = show_whole(a)
    elif a == 0:
        body = show_root_part(b)
    else:
        body = show_whole(a) + ("+" if b > 0 else "") + show_root_part(b)
        body = body if c == 1 else f"({body})"
    return body if c == 1 else f"{body}/{show_whole(c)}"


def show_root_part(b):
    """Tell the text of b times the root, b not 0."""
    if b == 1:
        return "r"
    if b == -1:
        return "-r"
    return show_whole(b) + "r"


def read_number(text):
    """Tell the number of which this is the text."""
    if not isinstance(text, str):
        raise NoText("this is no text")
    body, slash, below = text.partition("/")
    c = read_whole(below) if slash else 1
    if c == 0:
        raise NoText("nothing is told over 0")
    if body.startswith("(") and body.endswith(")"):
        body = body[1:-1]
    plain, beside_root = split_sum(body)
    found = number(read_signed(plain), read_root_part(beside_root), c)
    # More brackets, noughts ahead and terms that are not the lowest were let by; the number's own text has none.
    if show_number(found) != text:
        raise NoText("a number isn't written so")
    return found


def split_sum(body):
    """Tell the texts of the part without the root and of what stands beside the root."""
    if not body.endswith("r"):
        return (body, "0")
    at = max(body.rfind("+"), body.rfind("-"))
    if at <= 0:
        return ("0", body[:-1])
    return (body[:at], body[at:-1])


def read_root_part(text):
    """Tell the whole number that stands beside the root, a 1 not being written."""
    if text == "" or text == "+":
        return 1
    if text == "-":
        return -1
    return read_signed(text[1:] if text.startswith("+") else text)


def read_signed(text):
    """Tell the whole number, perhaps with a minus ahead."""
    return -read_whole(text[1:]) if text.startswith("-") else read_whole(text)


def read_whole(text):
    """Tell the whole number from 0 on that is written in one to forty figures."""
    if text == "" or len(text) > MOST_FIGURES or not all([sign in FIGURES for sign in text]):
        raise NoText("this is no whole number of at most forty figures")
    return int(text)


def show_plan(plan):
    """Tell the text of a plan for three kinds."""
    must_be_plan(plan, MOST_KINDS)
    return plan_text(plan)


def plan_text(plan):
    """Tell the text of what is surely a plan."""
    word = plan[0]
    if word == "kind":
        return LETTERS[plan[1]]
    if word == "turn":
        return "~" + plan_text(plan[1])
    if word == "grid":
        return f"{show_whole(plan[1])}x{show_whole(plan[2])}[{plan_text(plan[3])}]"
    parts = [plan_text(part) for part in plan[1]]
    inner = "/".join(parts) if word == "upon" else "|".join(parts)
    return f"({inner})"


def read_plan(text):
    """Tell the plan of which this is the text."""
    if not isinstance(text, str):
        raise NoText("this is no text")
    plan, end = plan_from(text, 0, 1)
    if end != len(text) or not is_plan(plan, MOST_KINDS):
        raise NoText("a plan isn't written so")
    return plan


def plan_from(text, at, depth):
    """Tell the plan whose text begins at a place, so deep within others, and where it ends."""
    # Told at once, so that a text of many brackets isn't followed down to its end.
    if depth > MOST_WITHIN:
        raise NoText("there are more than twelve plans within one another")
    sign = text[at:at + 1]
    if sign in LETTERS:
        return (("kind", LETTERS.index(sign)), at + 1)
    if sign == "~":
        plan, end = plan_from(text, at + 1, depth + 1)
        return (("turn", plan), end)
    if sign == "(":
        return parts_from(text, at + 1, depth + 1)
    return grid_from(text, at, depth + 1)


def parts_from(text, at, depth):
    """Tell the plan whose parts begin at a place, behind a round bracket, and where it ends."""
    first, at = plan_from(text, at, depth)
    parts = [first]
    between = text[at:at + 1]
    if between != "/" and between != "|":
        raise NoText("neither / nor | stands behind a plan in round brackets")
    while text[at:at + 1] == between:
        part, at = plan_from(text, at + 1, depth)
        parts.append(part)
    must_stand(text, at, ")")
    return (("upon" if between == "/" else "beside", tuple(parts)), at + 1)


def grid_from(text, at, depth):
    """Tell the grid whose text begins at a place, and where it ends."""
    columns, at = whole_ahead_of(text, at, "x")
    rows, at = whole_ahead_of(text, at, "[")
    plan, at = plan_from(text, at, depth)
    must_stand(text, at, "]")
    return (("grid", columns, rows, plan), at + 1)


def whole_ahead_of(text, at, sign):
    """Tell the whole number from a place up to the next such sign, and the place behind that."""
    end = text.find(sign, at)
    if end < 0:
        raise NoText("a sign of a grid is missing")
    found = read_whole(text[at:end])
    if show_whole(found) != text[at:end]:
        raise NoText("a whole number has a nought ahead")
    return (found, end + 1)


def must_stand(text, at, sign):
    """Refuse a text that hasn't the sign at the place."""
    if text[at:at + 1] != sign:
        raise NoText("a bracket isn't closed as it was opened")
