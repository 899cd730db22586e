"""Slabs: what is wanted of a net between two heights."""

from mostlaid.convex import convex
from mostlaid.errors import BadHeights, BadMode
from mostlaid.ratios import below, greatest_of, least, middle, pair
from mostlaid.rings import SOME, checked_rule
from mostlaid.sets import full, joined, less
from mostlaid.setups import Wanted
from mostlaid.slices import crossing_of, slice_above, slice_below

LOW = "low"
HIGH = "high"
MIDDLE = "middle"
SURE = "sure"
ALL = "all"


def face_shadow(corners, low, high):
    """The points whose hull is the shadow of a face between two heights; none if the face has no point between."""
    heights = [z for _, _, z in corners]
    if not below(least(heights), high) or not below(low, greatest_of(heights)):
        return []
    points = [(x, y) for x, y, z in corners if not below(z, low) and not below(high, z)]
    for k in range(3):
        foot, head = corners[k - 1], corners[k]
        if below(head[2], foot[2]):
            foot, head = head, foot
        points.extend([crossing_of(foot, head, z) for z in (low, high) if below(foot[2], z) and below(z, head[2])])
    return points


def shadow(net, z0, z1):
    """The union of the hulls of what lies of the faces between two heights, seen from above."""
    low, high = pair(z0), pair(z1)
    faces = [[net.corners[k] for k in face] for face in net.faces]
    pieces = [convex(face_shadow(corners, low, high)) for corners in faces]
    return joined(*pieces)


def slab(net, z0, z1, *, mode=LOW, rule=SOME):
    """The wanted slice of a layer between two heights."""
    checked_rule(rule)
    if mode not in (LOW, HIGH, MIDDLE, SURE, ALL):
        raise BadMode(mode)
    if not below(pair(z0), pair(z1)):
        raise BadHeights()
    if mode == HIGH:
        return slice_below(net, z1, rule=rule)
    if mode == MIDDLE:
        return slice_above(net, middle(pair(z0), pair(z1)), rule=rule)
    begin = slice_above(net, z0, rule=rule)
    if mode == SURE:
        return full(less(begin, shadow(net, z0, z1)))
    if mode == ALL:
        return full(joined(begin, shadow(net, z0, z1)))
    return begin


def wanted_of(setup, net, *, mode=LOW, rule=SOME):
    """The wanted body with the slabs of all layers."""
    heights = setup.heights
    return Wanted(setup, [slab(net, low, high, mode=mode, rule=rule) for low, high in zip(heights, heights[1:])])
