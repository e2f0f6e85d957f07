"""Streams through a net, and the heights of its lines.

A balance is a dict: by each line the part of its height that comes in, none of them nought, and by THROUGH what these
come to together.
"""

from matefloors.errors import NoFit, TooMany
from matefloors.nets import must_be_net
from matefloors.numbers import NOUGHT, contrary, less, over, plus, times

MOST_LINES_SOLVED = 13
MOST_TIES_SOLVED = 12
# The first line has the height 0 and no part in any balance, so its number is free.
THROUGH = 0


def streams_of(d, net, through):
    """Tell the streams, tie by tie, and the heights, line by line, where there is just one of each."""
    must_be_net(net)
    lines, ties = net
    if lines > MOST_LINES_SOLVED or len(ties) > MOST_TIES_SOLVED:
        raise TooMany("there are more than thirteen lines or more than twelve ties")
    found = solved(d, balances_of(d, lines, ties, through))
    heights = [NOUGHT] + [found[line] for line in range(1, lines)]
    streams = [over(d, less(heights[upper], heights[lower]), shape) for lower, upper, shape in ties]
    return (streams, heights)


def balances_of(d, lines, ties, through):
    """Tell the balance of each line but the first, whose own is that of all the others together."""
    balances = []
    for line in range(1, lines):
        balance = {THROUGH: through if line == lines - 1 else NOUGHT}
        for lower, upper, shape in ties:
            if line == lower or line == upper:
                add_tie(d, balance, line, lower + upper - line, shape)
        balances.append(without_noughts(balance))
    return balances


def add_tie(d, balance, line, other, shape):
    """Put into a line's balance what comes through a tie: what the line is higher than the other, over the shape."""
    part = contrary(d, shape)
    balance[line] = plus(balance.get(line, NOUGHT), part)
    if other != 0:
        balance[other] = less(balance.get(other, NOUGHT), part)


def without_noughts(balance):
    """Tell the balance without parts that are nought."""
    return {line: part for line, part in balance.items() if line == THROUGH or part != NOUGHT}


def solved(d, balances):
    """Tell the heights by their lines by which all balances hold, as many of these as of those."""
    told = []
    while balances:
        place = shortest_place(balances)
        line = rarest_line(balances, balances[place])
        by = {other: over(d, part, balances[place][line]) for other, part in balances[place].items()}
        told.append((line, by))
        balances = [cleared(d, balance, by, line) for balance in balances[:place] + balances[place + 1:]]
    heights = {}
    for line, by in reversed(told):
        heights[line] = height_by(d, by, line, heights)
    return heights


def shortest_place(balances):
    """Tell the place of the first balance with the fewest parts: by it few others grow longer."""
    lengths = [len(balance) for balance in balances]
    return lengths.index(min(lengths))


def rarest_line(balances, balance):
    """Tell a line of the balance that has a part in the fewest of all."""
    lines = [line for line in balance if line != THROUGH]
    if not lines:
        raise NoFit("there are no such streams and heights, or several")
    counts = [sum([line in other for other in balances]) for line in lines]
    return lines[counts.index(min(counts))]


def cleared(d, balance, by, line):
    """Tell the balance less so many times another one, which has one of the line, that it has no part of the line."""
    if line not in balance:
        return balance
    many = balance[line]
    rest = dict(balance)
    for other, part in by.items():
        rest[other] = less(rest.get(other, NOUGHT), times(d, many, part))
    return without_noughts(rest)


def height_by(d, by, line, heights):
    """Tell the line's height by a balance that has one of it, the heights of its other lines being known."""
    height = by[THROUGH]
    for other, part in by.items():
        if other != THROUGH and other != line:
            height = less(height, times(d, part, heights[other]))
    return height
