"""Fillings: strokes within a patch of places whose sweeps together are all that the foot can lay there."""

from mostlaid.errors import BadFilling
from mostlaid.feet import drawn_in, grown
from mostlaid.forms import section
from mostlaid.links import neighbours
from mostlaid.measures import turned
from mostlaid.patches import segment
from mostlaid.ratios import below, is_whole, over, times
from mostlaid.rims import cells, rim
from mostlaid.sets import joined, less, within

MOST_WALLS = 20


def line_numbers(low, high, v):
    """The whole numbers t for which the height 2 * v * t is not below one height and not above another one."""
    first, last = over(low, times(2, v)), over(high, times(2, v))
    return list(range(-(-first[0] // first[1]), last[0] // last[1] + 1))


def line_height(t, v):
    """The height of the line with a number."""
    return times(2 * t, v)


def line_strokes(p, t, v):
    """The strokes on the line with a number, to the right on even ones and back on odd ones."""
    y = line_height(t, v)
    row = [(a, b) for a, b in p.row_at(y) if a != b]
    if t % 2 == 0:
        return [(a, y, b, y) for a, b in row]
    return [(b, y, a, y) for a, b in row[::-1]]


def row_strokes(c, h, v):
    """The rim, and then strokes along level lines."""
    found = rim(c)
    if c:
        for t in line_numbers(c.levels[0], c.levels[-1], v):
            found.extend(line_strokes(c, t, v))
    return found


def column_strokes(c, h, v):
    """The row strokes of the patch with x and y exchanged, exchanged back."""
    return [(a, low, b, high) for low, a, high, b in row_strokes(turned(c), v, h)]


def shrunk_steps(c, h, v, most):
    """The patch, and what is left of it when it is drawn in again and again, at most so many times."""
    found = [c] if c else []
    while found and (most is None or len(found) <= most):
        left = drawn_in(found[-1], h, v)
        if not left:
            break
        found.append(left)
    return found


def shrunk(c, h, v):
    """The list of the patch and of what is left of it when it is drawn in, up to the last that is not empty."""
    return shrunk_steps(c, h, v, None)


def rims_of(patches):
    """The rims of some patches, one behind another."""
    return [stroke for p in patches for stroke in rim(p)]


def ring_strokes(c, h, v):
    """The rims of the patch and of all that is left of it when it is drawn in."""
    return rims_of(shrunk(c, h, v))


def wall_strokes(c, h, v, walls):
    """As many rims as there are walls, and the row strokes of what is left within them."""
    steps = shrunk_steps(c, h, v, walls)
    found = rims_of(steps[:walls])
    if len(steps) > walls:
        found.extend(row_strokes(steps[walls], h, v))
    return found


def strip_corner(strip, y):
    """The corner of a strip, as a cell, on the stretch at a height."""
    _, low, high, a, _, c, _ = strip
    return (a, low) if y == low else (c, high)


def strip_points(strip, v):
    """The points to which the pen is drawn within a strip, as a cell: around it, and then line by line."""
    _, low, high, a, b, c, d = strip
    points = [(a, low), (c, high), (d, high), (b, low)]
    for t in line_numbers(low, high, v):
        y = line_height(t, v)
        if below(low, y) and below(y, high):
            left, right = section([(a, b, c, d)], low, high, y)[0]
            points.extend([(left, y), (right, y)])
    return points


def next_visits(listed, links, number, begun):
    """What the visit of a cell goes on with, behind its own points: cells by numbers, and corners to draw to.

    They are tuples of a number and a point: the number of a strip with the corner where it is
    entered, or that of a stretch with any point, or -1 with a point alone.
    """
    cell = listed[number]
    if cell[0] == "stretch":
        return [(near, strip_corner(listed[near], cell[1])) for near in links[number]]
    under, above = links[number]
    visits = []
    for other in (under, above):
        if other not in begun:
            there = strip_corner(cell, listed[other][1])
            visits.extend([(-1, there), (other, there), (-1, there)])
    return visits


def tree_points(p, v):
    """The points to which the pen of a tree is drawn, from the first one on."""
    listed, links = cells(p), neighbours(p)
    begun = {}
    points = []
    # The visits are kept in a list, last first, since there may be more cells than calls can be nested.
    waiting = [(0, None)]
    while waiting:
        number, corner = waiting.pop()
        if number < 0:
            points.append(corner)
        elif number not in begun:
            begun[number] = True
            cell = listed[number]
            behind = []
            if cell[0] == "stretch":
                _, y, a, b = cell
                points.extend([(a, y), (b, y)])
            else:
                points.extend([corner] + strip_points(cell, v))
                behind = [(-1, corner)]
            waiting.extend((next_visits(listed, links, number, begun) + behind)[::-1])
    return points


def tree_strokes(c, h, v):
    """A chain of strokes through all cells of a connected patch."""
    if not c:
        return []
    points = tree_points(c, v)
    strokes = [one + other for one, other in zip(points, points[1:]) if one != other]
    return strokes if strokes else [points[0] + points[0]]


def sweep(stroke, h, v):
    """The union of the rectangles at all points of a stroke."""
    x0, y0, x1, y1 = stroke
    return grown(segment(x0, y0, x1, y1), h, v)


def laid(strokes, h, v):
    """The union of the sweeps of some strokes."""
    sweeps = [sweep(stroke, h, v) for stroke in strokes]
    return joined(*sweeps)


def spared(strokes, h, v):
    """The strokes without those, from the first one on, whose sweeps the others that are left cover."""
    sweeps = [sweep(stroke, h, v) for stroke in strokes]
    later = [joined()]
    for patch in sweeps[:0:-1]:
        later.append(joined(later[-1], patch))
    found = []
    before = joined()
    for stroke, patch, behind in zip(strokes, sweeps, later[::-1]):
        if not within(less(patch, before), behind):
            found.append(stroke)
            before = joined(before, patch)
    return found


def wall_number(filling):
    """The number of walls of a filling that is a tuple for walls, or None."""
    if not isinstance(filling, tuple) or len(filling) != 2 or filling[0] != "walls" or not is_whole(filling[1]):
        return None
    return filling[1] if 0 <= filling[1] <= MOST_WALLS else None


def is_filling(value):
    """Whether any value is a filling."""
    return value in ("rows", "columns", "rings", "tree", "spare") or wall_number(value) is not None


def strokes_of(c, h, v, filling):
    """The strokes of a filling by its word, or by the tuple for walls."""
    walls = wall_number(filling)
    if walls is not None:
        return wall_strokes(c, h, v, walls)
    if filling == "rows":
        return row_strokes(c, h, v)
    if filling == "columns":
        return column_strokes(c, h, v)
    if filling == "rings":
        return ring_strokes(c, h, v)
    if filling == "tree":
        return tree_strokes(c, h, v)
    if filling == "spare":
        return spared(row_strokes(c, h, v), h, v)
    raise BadFilling(filling)
