"""Rings: patches from closed chains of points, and the least convex patch around points."""

from mostlaid.convex import convex
from mostlaid.errors import BadRule
from mostlaid.ratios import pair
from mostlaid.windings import wound

SOME = "some"
OVER = "over"
ODD = "odd"


def is_some(number):
    """Whether a winding number is not 0."""
    return number != 0


def is_over(number):
    """Whether a winding number is above 0."""
    return number > 0


def is_odd(number):
    """Whether a winding number is odd."""
    return number % 2 == 1


def checked_rule(rule):
    """Refuses any value that is no rule."""
    if rule not in (SOME, OVER, ODD):
        raise BadRule(rule)


def wound_by(sides, rule):
    """The patch of the winding numbers around directed sides that obey a rule."""
    if rule == SOME:
        return wound(sides, is_some)
    if rule == OVER:
        return wound(sides, is_over)
    return wound(sides, is_odd)


def ring_sides(ring):
    """The sides of a ring, as tuples (x0, y0, x1, y1) with tuples as numbers."""
    points = [(pair(x), pair(y)) for x, y in ring]
    return [points[k - 1] + points[k] for k in range(len(points))]


def of_rings(rings, rule=SOME):
    """The closure of the points on no side whose winding number obeys the rule."""
    checked_rule(rule)
    return wound_by([side for ring in rings for side in ring_sides(ring)], rule)


def hull(points):
    """The least convex patch with some points; without points the empty one."""
    return convex([(pair(x), pair(y)) for x, y in points])
