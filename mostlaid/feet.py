"""Feet: patches grown by a rectangle, and the places at which a rectangle fits."""

from mostlaid.convex import grown_strip
from mostlaid.folds import folded
from mostlaid.forms import is_lone
from mostlaid.links import bare_stretches
from mostlaid.measures import box
from mostlaid.patches import nothing, rectangle
from mostlaid.ratios import below, greatest_of, least, minus, pair, plus
from mostlaid.sets import common, cut_out, joined, less


def around(y, a, b, h, v):
    """The union of the rectangles at the points of a stretch."""
    return rectangle(minus(a, h), minus(y, v), plus(b, h), plus(y, v))


def grown(p, h, v):
    """The union of the rectangles at all points of p."""
    wide, high = pair(h), pair(v)
    if wide[0] == 0 and high[0] == 0:
        return p
    pieces = [grown_strip(y0, y1, strip, wide, high) for y0, y1, strip in p.strips()]
    pieces.extend([around(y, a, b, wide, high) for y, a, b in bare_stretches(p)])
    return joined(*pieces)


def reaches(frame, y0, y1, strip, h, v):
    """Whether the inside of a grown strip can have points of a frame (x0, y0, x1, y1)."""
    left = minus(least([strip[0], strip[2]]), h)
    right = plus(greatest_of([strip[1], strip[3]]), h)
    across = below(left, frame[2]) and below(frame[0], right)
    return across and below(minus(y0, v), frame[3]) and below(frame[1], plus(y1, v))


def free_places(frame, stuff, h, v):
    """The places in a frame (x0, y0, x1, y1) that are not barred by stuff."""
    # A place between two grown strips that touch is free, so the strips are cut out one by one.
    whole = rectangle(frame[0], frame[1], frame[2], frame[3])
    left = [cut_out(whole, grown_strip(y0, y1, strip, h, v)) for y0, y1, strip in stuff.strips()
            if not is_lone(strip) and reaches(frame, y0, y1, strip, h, v)]
    return folded(left, common) if left else whole


def drawn_in(p, h, v):
    """The set of all places whose rectangle lies within p."""
    if not p:
        return p
    wide, high = pair(h), pair(v)
    x0, y0, x1, y1 = box(p)
    frame = (plus(x0, wide), plus(y0, high), minus(x1, wide), minus(y1, high))
    if below(frame[2], frame[0]) or below(frame[3], frame[1]):
        return nothing()
    return free_places(frame, less(rectangle(x0, y0, x1, y1), p), wide, high)


def off(p, stuff, h, v):
    """The set of all points of p at which no point is both inside the rectangle and inside stuff."""
    if not p:
        return p
    return common(p, free_places(box(p), stuff, pair(h), pair(v)))
