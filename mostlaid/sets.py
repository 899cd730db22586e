"""Sets: unions, intersections and differences of patches, and questions about two of them."""

from mostlaid.folds import folded
from mostlaid.forms import is_lone
from mostlaid.overlays import COMMON, CUT, JOINED, LESS
from mostlaid.overlays import bands_of, closed_rows, cuts_at, levels_within, overlaid
from mostlaid.patches import formed, nothing
from mostlaid.ratios import below, in_order


def joined(*patches):
    """The union; without patches the empty patch."""
    left = [p for p in patches if p]
    return folded(left, both_joined) if left else nothing()


def both_joined(p, q):
    """The union of two patches that are not empty."""
    return overlaid(JOINED, p, q)


def common(p, q):
    """The intersection."""
    if not p or not q:
        return nothing()
    return overlaid(COMMON, p, q)


def less(p, q):
    """The closure of the set of the points of p that are not points of q."""
    if not p or not q:
        return p
    return overlaid(LESS, p, q)


def cut_out(p, q):
    """The set of the points of p that are not inside q."""
    if not p or not q:
        return p
    return overlaid(CUT, p, q)


def full(p):
    """The closure of the inside of p."""
    bands = [tuple([strip for strip in band if not is_lone(strip)]) for band in p.bands]
    rows = closed_rows([()] * len(p.levels), bands)
    return formed(p.levels, rows, bands)


def laid_over(p, q):
    """The cuts of two patches at the levels of both that p reaches."""
    reached = levels_within(q, p.levels[0], p.levels[-1])
    heights = in_order(p.levels + tuple(reached))
    return cuts_at(p, heights), cuts_at(q, heights)


def row_within(mine, yours):
    """Whether each of some stretches lies in one of others."""
    for a, b in mine:
        if not any([not below(a, c) and not below(d, b) for c, d in yours]):
            return False
    return True


def band_within(mine, yours):
    """Whether each of some strips lies in one of others between the same heights."""
    for strip in mine:
        if not any([is_around(other, strip) for other in yours]):
            return False
    return True


def is_around(outer, strip):
    """Whether a strip has all points of another one between the same heights."""
    a, b, c, d = outer
    e, f, g, h = strip
    return not (below(e, a) or below(b, f) or below(g, c) or below(d, h))


def within(p, q):
    """Whether all points of p are points of q."""
    if not p:
        return True
    if not q or below(p.levels[0], q.levels[0]) or below(q.levels[-1], p.levels[-1]):
        return False
    mine, yours = laid_over(p, q)
    # The strips of q do not meet, so one of p, being connected, lies in a single one of them.
    if not all([row_within(one[0], other[0]) for one, other in zip(mine, yours)]):
        return False
    return all([band_within(one, other) for one, other in zip(bands_of(mine), bands_of(yours))])


def strips_meet(one, other):
    """Whether two strips between the same heights have inside points in common."""
    if is_lone(one) or is_lone(other):
        return False
    # Each must begin left of where the other one ends, at some end of the band. If they do so
    # at different ends only, one passes over the other in between, and they meet there.
    a, b, c, d = one
    e, f, g, h = other
    return (below(a, f) or below(c, h)) and (below(e, b) or below(g, d))


def insides_meet(p, q):
    """Whether a point is inside p and inside q."""
    if not p or not q or not below(p.levels[0], q.levels[-1]) or not below(q.levels[0], p.levels[-1]):
        return False
    mine, yours = laid_over(p, q)
    for one, other in zip(bands_of(mine), bands_of(yours)):
        if any([strips_meet(strip, met) for strip in one for met in other]):
            return True
    return False
