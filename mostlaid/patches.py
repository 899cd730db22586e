"""Patches: closed sets of the plane with straight sides, kept in one form for each set."""

from mostlaid.forms import ends_at, inner, level_below, section, straightened
from mostlaid.ratios import below, pair


class Patch:
    """A closed and bounded set with straight sides; it is made by functions alone."""

    def __init__(self, levels, rows, bands):
        self.levels = levels
        self.rows = rows
        self.bands = bands

    def row_at(self, y):
        """The row at a height, left to right; an empty tuple where there is none."""
        height = pair(y)
        at = level_below(self.levels, height)
        if at < 0:
            return ()
        if self.levels[at] == height:
            return self.rows[at]
        if at + 1 == len(self.levels):
            return ()
        return section(self.bands[at], self.levels[at], self.levels[at + 1], height)

    def has(self, x, y):
        """Whether a point belongs to the patch."""
        place = pair(x)
        for a, b in self.row_at(y):
            if not below(place, a) and not below(b, place):
                return True
        return False

    def has_inside(self, x, y):
        """Whether a point is inside the patch."""
        place = pair(x)
        return any([below(a, place) and below(place, b) for a, b in inside_at(self, pair(y))])

    def strips(self):
        """All strips as (y0, y1, strip), band by band from below, left to right."""
        found = []
        for at, band in enumerate(self.bands):
            found.extend([(self.levels[at], self.levels[at + 1], strip) for strip in band])
        return found

    def __contains__(self, x):
        return self.has(x[0], x[1])

    def __eq__(self, other):
        return (isinstance(other, Patch) and self.levels == other.levels
                and self.rows == other.rows and self.bands == other.bands)

    def __bool__(self):
        return bool(self.levels)

    def __repr__(self):
        return f"Patch({len(self.levels)} levels)"


def cut_at(p, y):
    """The row of a patch at a height, and its stretches just below and just above the height."""
    at = level_below(p.levels, y)
    if at < 0:
        return (), (), ()
    if p.levels[at] == y:
        under, above = ends_at(p.bands, at)
        return p.rows[at], under, above
    if at + 1 == len(p.levels):
        return (), (), ()
    row = section(p.bands[at], p.levels[at], p.levels[at + 1], y)
    return row, row, row


def inside_at(p, y):
    """The open intervals of the points at a height that are inside a patch, left to right."""
    _, under, above = cut_at(p, y)
    return inner(under, above)


def nothing():
    """The empty patch."""
    return Patch((), (), ())


def formed(heights, rows, bands):
    """The patch with these rows at some heights, its levels among them, and these bands between them."""
    levels, level_rows, level_bands = straightened(heights, rows, bands)
    return Patch(levels, level_rows, level_bands)


def dot(x, y):
    """The patch of one point."""
    return segment(x, y, x, y)


def segment(x0, y0, x1, y1):
    """The patch of a segment; it may have no length."""
    a, low, b, high = pair(x0), pair(y0), pair(x1), pair(y1)
    if low == high:
        row = (b, a) if below(b, a) else (a, b)
        return Patch((low,), ((row,),), ())
    if below(high, low):
        a, low, b, high = b, high, a, low
    return Patch((low, high), (((a, a),), ((b, b),)), (((a, a, b, b),),))


def rectangle(x0, y0, x1, y1):
    """The patch of all points from x0 to x1 and from y0 to y1; it may have no width or no height."""
    a, low, b, high = pair(x0), pair(y0), pair(x1), pair(y1)
    row = ((a, b),)
    if low == high:
        return Patch((low,), (row,), ())
    return Patch((low, high), (row, row), (((a, b, a, b),),))
