"""Where a plan's tiles lie: the tile at a spot, and the laying of a told width.

A box is a tuple (x, y, width, height) on the floor; quarters, 0 to 3, tells how often what lies in it is turned.
"""

from matefloors.errors import NoSpot, TooMany
from matefloors.layings import MOST_TILES, bounds_of, must_be_kinds
from matefloors.numbers import NOUGHT, ONE, contrary, is_above, is_number, less, must_be_above_nought, over, plus
from matefloors.numbers import times, whole_beneath
from matefloors.plans import made_of, must_be_plan, tiles_in


def tile_at(d, kinds, plan, x, y):
    """Tell the tile at a spot of the floor of width 1, its kind's place and whether it is turned."""
    must_be_kinds(d, kinds)
    must_be_plan(plan, len(kinds))
    shape = made_of(d, kinds, plan)
    must_be_spot(d, shape, x, y)
    box = (NOUGHT, NOUGHT, ONE, shape)
    quarters = 0
    while plan[0] != "kind":
        if plan[0] == "turn":
            quarters = once_more(quarters)
            plan = plan[1]
        elif plan[0] == "grid":
            box = cell_at(d, plan, quarters, box, x, y)
            plan = plan[3]
        else:
            plan, box = part_at(d, kinds, plan, quarters, box, x, y)
    return box + (plan[1], quarters % 2 == 1)


def must_be_spot(d, shape, x, y):
    """Refuse what is no spot of the floor of width 1 and the shape."""
    if not is_number(x) or not is_number(y) or not begins_at(d, (NOUGHT, NOUGHT, ONE, shape), x, y):
        raise NoSpot("this is no spot of the floor")


def begins_at(d, box, x, y):
    """Tell whether the spot is in the box, its left and lower sides counted, the others not."""
    left, right, bottom, top = bounds_of(box)
    if is_above(d, left, x) or is_above(d, bottom, y):
        return False
    return is_above(d, right, x) and is_above(d, top, y)


def once_more(quarters):
    """Tell how often it is turned with one turn more."""
    return (quarters + 1) % 4


def part_at(d, kinds, plan, quarters, box, x, y):
    """Tell the plan of those upon or beside one another that lies at the spot, and its box."""
    boxes = strip_boxes(d, kinds, plan, quarters, box)
    found = [(part, inner) for part, inner in zip(plan[1], boxes) if begins_at(d, inner, x, y)]
    return found[0]


def strip_boxes(d, kinds, plan, quarters, box):
    """Tell the boxes of plans upon or beside one another, in their order."""
    shapes = [made_of(d, kinds, part) for part in plan[1]]
    upon = plan[0] == "upon"
    sizes = shapes if upon else [contrary(d, shape) for shape in shapes]
    # A quarter's turn brings what was below to the right and what was on the left below.
    backward = quarters in ((1, 2) if upon else (2, 3))
    if upon == (quarters % 2 == 0):
        return rising_boxes(d, sizes, box, backward)
    # Across is upward with the two directions changed for one another.
    return [swapped(inner) for inner in rising_boxes(d, sizes, swapped(box), backward)]


def swapped(box):
    """Tell the box with across and upward changed for one another."""
    x, y, width, height = box
    return (y, x, height, width)


def rising_boxes(d, sizes, box, backward):
    """Tell boxes of these heights over the width, one upon another from below, or from above where it is backward."""
    x, y, width, height = box
    boxes = []
    start = plus(y, height) if backward else y
    for size in sizes:
        high = times(d, size, width)
        if backward:
            start = less(start, high)
        boxes.append((x, start, width, high))
        if not backward:
            start = plus(start, high)
    return boxes


def cell_at(d, plan, quarters, box, x, y):
    """Tell the box of a grid's cell at the spot."""
    width, height = cell_sides(d, plan, quarters, box)
    column = whole_beneath(d, over(d, less(x, box[0]), width))
    row = whole_beneath(d, over(d, less(y, box[1]), height))
    return cell_box(d, box, width, height, column, row)


def cell_sides(d, plan, quarters, box):
    """Tell the width and the height of a grid's cells as they lie in the box."""
    columns, rows = plan[1], plan[2]
    if quarters % 2 == 1:
        columns, rows = rows, columns
    return (over(d, box[2], (columns, 0, 1)), over(d, box[3], (rows, 0, 1)))


def cell_box(d, box, width, height, column, row):
    """Tell the box of a cell, its column counted from the left and its row from below, from 0."""
    right = times(d, (column, 0, 1), width)
    up = times(d, (row, 0, 1), height)
    return (plus(box[0], right), plus(box[1], up), width, height)


def cell_boxes(d, plan, quarters, box):
    """Tell the boxes of a grid's cells in the plan's order: row by row from below, each from the left, then turned."""
    width, height = cell_sides(d, plan, quarters, box)
    boxes = []
    for row in range(plan[2]):
        for column in range(plan[1]):
            across, upward = turned_place(plan[1], plan[2], column, row, quarters)
            boxes.append(cell_box(d, box, width, height, across, upward))
    return boxes


def turned_place(columns, rows, column, row, quarters):
    """Tell the column and the row in which a grid's cell lies when the grid is turned so often."""
    for turn in range(quarters):
        column, row = rows - 1 - row, column
        columns, rows = rows, columns
    return (column, row)


def laid_out(d, kinds, plan, width):
    """Tell the laying of that width by the plan."""
    must_be_kinds(d, kinds)
    must_be_plan(plan, len(kinds))
    must_be_above_nought(d, width)
    if tiles_in(plan) > MOST_TILES:
        raise TooMany("there would be more than sixty tiles")
    height = times(d, made_of(d, kinds, plan), width)
    tiles = tiles_of(d, kinds, plan, 0, (NOUGHT, NOUGHT, width, height))
    return (width, height, tuple(tiles))


def tiles_of(d, kinds, plan, quarters, box):
    """Tell the tiles that the plan, turned so often, lays in the box, in its order."""
    word = plan[0]
    if word == "kind":
        return [box]
    if word == "turn":
        return tiles_of(d, kinds, plan[1], once_more(quarters), box)
    tiles = []
    if word == "grid":
        for inner in cell_boxes(d, plan, quarters, box):
            tiles.extend(tiles_of(d, kinds, plan[3], quarters, inner))
        return tiles
    for part, inner in zip(plan[1], strip_boxes(d, kinds, plan, quarters, box)):
        tiles.extend(tiles_of(d, kinds, part, quarters, inner))
    return tiles
