"""Measures: sizes, boxes and parts of patches, and patches moved or with x and y exchanged."""

from mostlaid.convex import convex
from mostlaid.folds import folded
from mostlaid.links import bare_stretches, neighbours, stretch_numbers
from mostlaid.patches import Patch, formed, segment
from mostlaid.ratios import greatest_of, least, minus, plus, times
from mostlaid.sets import joined


def size(p):
    """The area."""
    areas = [strip_area(low, high, strip) for low, high, strip in p.strips()]
    return folded(areas, plus) if areas else (0, 1)


def strip_area(low, high, strip):
    """The area of a strip between two heights."""
    a, b, c, d = strip
    width = plus(minus(b, a), minus(d, c))
    return times(times(width, minus(high, low)), (1, 2))


def box(p):
    """The tuple (x0, y0, x1, y1) of the least and greatest coordinates; None for the empty patch."""
    if not p:
        return None
    lefts = [row[0][0] for row in p.rows]
    rights = [row[-1][1] for row in p.rows]
    return least(lefts), p.levels[0], greatest_of(rights), p.levels[-1]


def first_point(p):
    """The lowest point, and among several the leftmost; None for the empty patch."""
    return (p.rows[0][0][0], p.levels[0]) if p else None


def part_numbers(p):
    """For each cell, by its number, the number of its part; parts are counted by their first cells."""
    links = neighbours(p)
    part_of = [-1] * len(links)
    many = 0
    for begin in range(len(links)):
        if part_of[begin] >= 0:
            continue
        part_of[begin] = many
        waiting = [begin]
        while waiting:
            here = waiting.pop()
            for cell in links[here]:
                if part_of[cell] < 0:
                    part_of[cell] = many
                    waiting.append(cell)
        many += 1
    return part_of


def parts(p):
    """The list of the connected parts, in the order of their first points."""
    part_of = part_numbers(p)
    firsts = stretch_numbers(p)
    found = []
    # The first cell of a part is the stretch with its first point.
    for part in range(max(part_of, default=-1) + 1):
        rows = [chosen(row, part_of[first:], part) for row, first in zip(p.rows, firsts)]
        bands = [chosen(band, part_of[firsts[at] + len(p.rows[at]):], part) for at, band in enumerate(p.bands)]
        found.append(formed(p.levels, rows, bands))
    return found


def chosen(cells, numbers, part):
    """Those of some neighbouring cells whose numbers of parts are this part."""
    return tuple([cell for cell, number in zip(cells, numbers) if number == part])


def moved(p, dx, dy):
    """The patch moved."""
    levels = tuple([plus(y, dy) for y in p.levels])
    rows = tuple([moved_spans(row, dx) for row in p.rows])
    bands = tuple([moved_spans(band, dx) for band in p.bands])
    return Patch(levels, rows, bands)


def moved_spans(spans, dx):
    """Stretches or strips moved to the right."""
    return tuple([tuple([plus(x, dx) for x in span]) for span in spans])


def turned(p):
    """The patch with x and y exchanged."""
    pieces = [convex([(low, a), (low, b), (high, c), (high, d)]) for low, high, (a, b, c, d) in p.strips()]
    pieces.extend([segment(y, a, y, b) for y, a, b in bare_stretches(p)])
    return joined(*pieces)
