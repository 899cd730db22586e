"""Patches by winding numbers around directed sides."""

from mostlaid.forms import share_of
from mostlaid.overlays import closed_rows, crossings, side_keys
from mostlaid.patches import formed
from mostlaid.ratios import below, in_order, on_way


def rising(sides):
    """The sides that are not level as (x0, y0, x1, y1, turns) with y0 < y1; turns is 1 for up and -1 for down."""
    found = []
    for a, low, b, high in sides:
        if below(low, high):
            found.append((a, low, b, high, 1))
        elif below(high, low):
            found.append((b, high, a, low, -1))
    return found


def places_between(sides, low, high):
    """The places at two heights of sides that go from one to the other, or further."""
    return [(place_on(side, low), place_on(side, high)) for side in sides]


def place_on(side, y):
    """The place of a side at a height."""
    n, d = share_of(side[1], side[3], y)
    return on_way(side[0], side[2], n, d)


def wound_strips(sides, low, high, obeys):
    """The strips between two heights, between which no sides cross, with a winding number that obeys."""
    places = places_between(sides, low, high)
    turns, place_of = {}, {}
    for at, key in enumerate(side_keys(places)):
        turns[key] = turns.get(key, 0) + sides[at][4]
        place_of[key] = places[at]
    found = []
    number = 0
    right = None
    for key in sorted(turns, reverse=True):
        number = number + turns[key]
        if obeys(number) and right is None:
            right = place_of[key]
        if not obeys(number) and right is not None:
            left = place_of[key]
            found.append((left[0], right[0], left[1], right[1]))
            right = None
    return tuple(found[::-1])


def wound(sides, obeys):
    """The closure of the points on no side whose winding number obeys.

    sides are strokes with tuples as numbers; at each point as many begin as end. obeys is a
    function of a winding number, which is false for 0.
    """
    up = rising(sides)
    heights = in_order([side[1] for side in up] + [side[3] for side in up])
    cuts, bands = heights[:1], []
    for low, high in zip(heights, heights[1:]):
        passing = [side for side in up if not below(low, side[1]) and not below(side[3], high)]
        more = crossings(low, high, places_between(passing, low, high))
        steps = in_order(more + [low, high])
        bands.extend([wound_strips(passing, y0, y1, obeys) for y0, y1 in zip(steps, steps[1:])])
        cuts.extend(steps[1:])
    rows = closed_rows([()] * len(cuts), bands)
    return formed(cuts, rows, bands)
