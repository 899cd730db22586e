"""Convex patches: between two chains of points, grown from a strip, or around points."""

from mostlaid.forms import share_of
from mostlaid.patches import formed
from mostlaid.ratios import below, in_order, minus, on_way, plus, times


def chain_place(chain, y):
    """The place at a height of a chain of points that goes up."""
    at = 0
    while below(chain[at][1], y):
        at += 1
    x, height = chain[at]
    if height == y:
        return x
    before, low = chain[at - 1]
    n, d = share_of(low, height, y)
    return on_way(before, x, n, d)


def between_chains(left, right):
    """The patch between two chains of points that go up from one common height to another one."""
    heights = in_order([y for _, y in left + right])
    row_list = [(chain_place(left, y), chain_place(right, y)) for y in heights]
    bands = [(row_list[k] + row_list[k + 1],) for k in range(len(heights) - 1)]
    return formed(heights, [(stretch,) for stretch in row_list], bands)


def grown_side(foot, low, head, high, v, leaning):
    """The chain around a side that is moved down and up by v; leaning tells whether it goes outward."""
    first, last = (foot, minus(low, v)), (head, plus(high, v))
    bend = (head, minus(high, v)) if leaning else (foot, plus(low, v))
    if foot == head or bend == first or bend == last:
        return [first, last]
    return [first, bend, last]


def grown_strip(low, high, strip, h, v):
    """The union of the rectangles with the half widths h and v at all points of a strip."""
    a, b, c, d = strip
    left = grown_side(minus(a, h), low, minus(c, h), high, v, below(c, a))
    right = grown_side(plus(b, h), low, plus(d, h), high, v, below(b, d))
    return between_chains(left, right)


def bend_of(one, mid, other):
    """Above 0 if mid lies left of the way from one up to the other, below 0 if it lies right of it."""
    ahead = times(minus(other[0], one[0]), minus(mid[1], one[1]))
    across = times(minus(other[1], one[1]), minus(mid[0], one[0]))
    return minus(ahead, across)[0]


def outer_chain(points, sign):
    """The points of a chain that goes up that are corners of its convex cover, on the left side for sign 1."""
    chain = []
    for point in points:
        while len(chain) > 1 and sign * bend_of(chain[-2], chain[-1], point) <= 0:
            chain.pop()
        chain.append(point)
    return chain


def convex(points):
    """The least convex patch with some points; without points the empty one."""
    leftmost, rightmost = {}, {}
    for x, y in points:
        if y not in leftmost or below(x, leftmost[y]):
            leftmost[y] = x
        if y not in rightmost or below(rightmost[y], x):
            rightmost[y] = x
    heights = in_order(list(leftmost))
    left = outer_chain([(leftmost[y], y) for y in heights], 1)
    right = outer_chain([(rightmost[y], y) for y in heights], -1)
    return between_chains(left, right)
