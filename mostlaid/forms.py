"""The form of patches: rows at levels, and bands of strips between them."""

from mostlaid.ratios import below, minus, on_way, reduced, times


def share_of(low, high, y):
    """The share (n, d) of the way from one height to another one at which a height lies."""
    n = (y[0] * low[1] - low[0] * y[1]) * high[1]
    d = (high[0] * low[1] - low[0] * high[1]) * y[1]
    return reduced(n, d)


def section(strips, low, high, y):
    """The stretches at a height of strips that go from one height to another one."""
    n, d = share_of(low, high, y)
    return tuple([(on_way(a, c, n, d), on_way(b, e, n, d)) for a, b, c, e in strips])


def lower_ends(strips):
    """The stretches from which strips go up."""
    return tuple([strip[:2] for strip in strips])


def upper_ends(strips):
    """The stretches at which strips end above."""
    return tuple([strip[2:] for strip in strips])


def ends_at(bands, at):
    """The stretches at a height, by its index, at which strips of the bands below and above it end."""
    under = upper_ends(bands[at - 1]) if at > 0 else ()
    above = lower_ends(bands[at]) if at < len(bands) else ()
    return under, above


def is_lone(strip):
    """Whether a strip has no points between its sides."""
    a, b, c, d = strip
    return a == b and c == d


def level_below(levels, y):
    """The index of the greatest level that is not above a height, or -1."""
    low, high = 0, len(levels)
    while low < high:
        at = (low + high) // 2
        if below(y, levels[at]):
            high = at
        else:
            low = at + 1
    return low - 1


def inner(under, above):
    """The open intervals in which stretches below a height and stretches above it both have inside points.

    Both go left to right; only their points other than the ends count.
    """
    found = []
    i, j = 0, 0
    while i < len(under) and j < len(above):
        a = under[i][0] if below(above[j][0], under[i][0]) else above[j][0]
        ends_first = below(under[i][1], above[j][1])
        b = under[i][1] if ends_first else above[j][1]
        if below(a, b):
            found.append((a, b))
        if ends_first:
            i = i + 1
        else:
            j = j + 1
    return tuple(found)


def is_straight(a, c, e, low, y, high):
    """Whether the places a, c, e at the heights low, y, high lie on one line."""
    if a == c or c == e:
        return a == c and c == e
    return times(minus(c, a), minus(high, y)) == times(minus(e, c), minus(y, low))


def runs_through(under, row, above, heights):
    """Whether strips below the middle one of three heights run straight on to those above it."""
    if row != upper_ends(under) or row != lower_ends(above):
        return False
    low, y, high = heights
    for (a, b, c, d), (e, f) in zip(under, upper_ends(above)):
        if not is_straight(a, c, e, low, y, high) or not is_straight(b, d, f, low, y, high):
            return False
    # Stretches of a row are apart, so strips that end in all of them do not meet.
    return True


def lengthened(under, above):
    """The strips that begin as those in one band and end as those in the band above it."""
    return tuple([lower[:2] + upper[2:] for lower, upper in zip(under, above)])


def straightened(heights, rows, bands):
    """The levels, rows and bands of a patch that is given at some heights, its levels among them.

    rows has a tuple of stretches for each height and bands one of strips for each two neighbours.
    """
    levels, level_rows, level_bands = [], [], []
    under = ()
    for at, y in enumerate(heights):
        above = bands[at] if at < len(bands) else ()
        if not rows[at]:
            continue
        if under and above:
            three = (levels[-1], y, heights[at + 1])
            if runs_through(under, rows[at], above, three):
                under = lengthened(under, above)
                continue
        if levels:
            level_bands.append(under)
        levels.append(y)
        level_rows.append(rows[at])
        under = above
    return tuple(levels), tuple(level_rows), tuple(level_bands)
