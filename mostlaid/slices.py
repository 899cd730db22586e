"""Slices: a closed net cut just above or just below a height."""

from mostlaid.errors import NotClosed
from mostlaid.forms import share_of
from mostlaid.nets import open_edges
from mostlaid.ratios import below, on_way, pair
from mostlaid.rings import SOME, checked_rule, wound_by


def crossing_of(p, q, height):
    """The point (x, y) in which the edge from one corner to another one crosses a height."""
    n, d = share_of(p[2], q[2], height)
    return on_way(p[0], q[0], n, d), on_way(p[1], q[1], n, d)


def cut_of(corners, uppers, height):
    """The cut of a face at a height, as a stroke.

    uppers tells for each of the three corners whether it counts as above; it is not the same for all.
    """
    alone = [k for k in range(3) if uppers[k] != uppers[k - 1] and uppers[k] != uppers[k - 2]][0]
    tip = corners[alone]
    ahead = crossing_of(tip, corners[alone - 2], height)
    behind = crossing_of(tip, corners[alone - 1], height)
    # With a lone corner above, the direction (-ny, nx) leads from the edge that leaves it to the one that comes back.
    return ahead + behind if uppers[alone] else behind + ahead


def cuts_of(net, uppers, height):
    """The cuts of all faces with corners on both sides; uppers tells for each corner whether it counts as above."""
    found = []
    for face in net.faces:
        sides = [uppers[k] for k in face]
        if any(sides) and not all(sides):
            found.append(cut_of([net.corners[k] for k in face], sides, height))
    return found


def wound_cuts(net, uppers, height, rule):
    """The slice of a net by its cuts, if the rule is one and the net is closed."""
    checked_rule(rule)
    edges = open_edges(net)
    if edges:
        raise NotClosed(edges)
    return wound_by(cuts_of(net, uppers, height), rule)


def slice_above(net, z, *, rule=SOME):
    """The slice of a closed net just above a height."""
    height = pair(z)
    return wound_cuts(net, [below(height, corner[2]) for corner in net.corners], height, rule)


def slice_below(net, z, *, rule=SOME):
    """The slice of a closed net just below a height."""
    height = pair(z)
    return wound_cuts(net, [not below(corner[2], height) for corner in net.corners], height, rule)
