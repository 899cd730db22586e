"""Rims: strokes around patches, their cells, and ways within them."""

from mostlaid.errors import BadPoint
from mostlaid.forms import inner, level_below
from mostlaid.links import holder, neighbours, stretch_numbers
from mostlaid.overlays import CUT, blended_row
from mostlaid.patches import cut_at, segment
from mostlaid.ratios import middle, pair
from mostlaid.sets import within


def side_ends(under, above):
    """The places at a height at which sides of strips end."""
    return [place for stretch in under + above for place in stretch]


def level_strokes(p, y):
    """The strokes of the rim on a level."""
    row, under, above = cut_at(p, y)
    ends = side_ends(under, above)
    left = blended_row(CUT, row, inner(under, above))
    return [(a, y, b, y) for a, b in left if a != b or a not in ends]


def strip_strokes(low, high, strip):
    """The strokes along the sides of a strip."""
    a, b, c, d = strip
    left, right = (a, low, c, high), (b, low, d, high)
    return [left] if left == right else [left, right]


def rim(p):
    """The list of strokes for the points of a patch that are not inside it."""
    found = []
    for at, y in enumerate(p.levels):
        found.extend(level_strokes(p, y))
        if at < len(p.bands):
            for strip in p.bands[at]:
                found.extend(strip_strokes(y, p.levels[at + 1], strip))
    return found


def cells(p):
    """The list of the cells: ("stretch", y, a, b) and ("strip", y0, y1, a, b, c, d)."""
    found = []
    for at, y in enumerate(p.levels):
        found.extend([("stretch", y, a, b) for a, b in p.rows[at]])
        if at < len(p.bands):
            found.extend([("strip", y, p.levels[at + 1]) + strip for strip in p.bands[at]])
    return found


def cell_at(p, point):
    """The number of the cell of a point of a patch: a stretch if it lies on a level, else a strip."""
    x, y = point
    at = level_below(p.levels, y)
    first = stretch_numbers(p)[at]
    spot = holder(p.row_at(y), x)
    return first + spot if p.levels[at] == y else first + len(p.rows[at]) + spot


def steps_to(links, goal):
    """For each cell the least number of steps to a cell; -1 where there is no way."""
    steps = [-1] * len(links)
    steps[goal] = 0
    ring = [goal]
    while ring:
        further = []
        for cell in ring:
            for near in links[cell]:
                if steps[near] < 0:
                    steps[near] = steps[cell] + 1
                    further.append(near)
        ring = further
    return steps


def cell_way(links, begin, goal):
    """The fewest cells from one to another one, among several the least list of numbers; None if there is no way."""
    steps = steps_to(links, goal)
    if steps[begin] < 0:
        return None
    found = [begin]
    while found[-1] != goal:
        here = found[-1]
        found.append(min([cell for cell in links[here] if steps[cell] == steps[here] - 1]))
    return found


def door_middle(one, other):
    """The middle of the door between a strip and a stretch that touch."""
    strip, stretch = (one, other) if one[0] == "strip" else (other, one)
    y = stretch[1]
    a, b = strip[3:5] if y == strip[1] else strip[5:7]
    return middle(a, b), y


def way(p, start, goal):
    """A path within a patch as a list of points; None if the two points are not in one part."""
    for point in (start, goal):
        if point not in p:
            raise BadPoint(point)
    begin = (pair(start[0]), pair(start[1]))
    end = (pair(goal[0]), pair(goal[1]))
    if begin == end:
        return [begin]
    if within(segment(begin[0], begin[1], end[0], end[1]), p):
        return [begin, end]
    numbers = cell_way(neighbours(p), cell_at(p, begin), cell_at(p, end))
    if numbers is None:
        return None
    listed = cells(p)
    doors = [door_middle(listed[numbers[k]], listed[numbers[k + 1]]) for k in range(len(numbers) - 1)]
    return without_repeats([begin] + doors + [end])


def without_repeats(points):
    """A list in which of equal neighbours one is kept."""
    return [point for at, point in enumerate(points) if at == 0 or points[at - 1] != point]
