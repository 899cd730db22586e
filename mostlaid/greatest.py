"""The greatest body that any code can still leave, from what stands."""

from mostlaid.feet import drawn_in, grown, off
from mostlaid.patches import rectangle
from mostlaid.ratios import below, minus, plus
from mostlaid.sets import common, full, insides_meet, joined, less, within
from mostlaid.setups import checked_standing


class Greatest:
    """For each layer its ground, the places of the foot, the body, the places for props, and the roof."""

    def __init__(self, grounds, places, body, prop_places, roof):
        self.grounds = tuple(grounds)
        self.places = tuple(places)
        self.body = tuple(body)
        self.prop_places = tuple(prop_places)
        self.roof = tuple(roof)


def foot_at(setup, place):
    """The rectangle of the foot at a place."""
    return around_place(place, setup.foot)


def around_place(place, halves):
    """The rectangle with two half widths at a place."""
    x, y = place
    return rectangle(minus(x, halves[0]), minus(y, halves[1]), plus(x, halves[0]), plus(y, halves[1]))


def stands_above(setup, begun, height):
    """What stands in all layers that reach above a height, seen from above."""
    pieces = [stuff for stuff, upper in zip(begun, setup.heights[1:]) if below(height, upper)]
    return joined(*pieces)


def bars_of(setup, begun, layer):
    """What bars the foot and what bars the carriage, with the tip at the height of a layer."""
    # An open set that meets the inside of a union of closed sets meets the inside of one of them,
    # so the layers may be taken together.
    tip = setup.heights[layer]
    return stands_above(setup, begun, tip), stands_above(setup, begun, plus(tip, setup.gap))


def is_stopped(setup, bars, place):
    """Whether the foot or the carriage at a place meets what bars them."""
    by_foot, by_carriage = bars
    return (insides_meet(foot_at(setup, place), by_foot)
            or insides_meet(around_place(place, setup.carriage), by_carriage))


def free_of(setup, bars, patch):
    """The places of a patch at which neither the foot nor the carriage meets what bars them."""
    by_foot, by_carriage = bars
    left = off(patch, by_foot, setup.foot[0], setup.foot[1])
    return off(left, by_carriage, setup.carriage[0], setup.carriage[1])


def is_new_and_outside(setup, point, stuff, part):
    """Whether the rectangle at a point is not all there yet, and has no inside point inside the slice."""
    stand = foot_at(setup, point)
    return not within(stand, stuff) and not insides_meet(stand, part)


def prop_points(setup, bars, ground, stuff, part):
    """The points of the raster at which a prop may stand in a layer, on its ground and outside its slice."""
    return tuple([point for point in setup.raster if within(foot_at(setup, point), ground)
                  and is_new_and_outside(setup, point, stuff, part) and not is_stopped(setup, bars, point)])


def greatest(wanted, standing=None):
    """The greatest body from what stands."""
    setup = wanted.setup
    begun = checked_standing(setup, standing)
    h, v = setup.foot
    r, s = setup.reach
    x0, y0, x1, y1 = setup.bed
    grounds, places, body, prop_places, roof = [], [], [], [], []
    for at, stuff in enumerate(begun):
        part, bars = wanted.slices[at], bars_of(setup, begun, at + 1)
        grounds.append(grown(roof[-1], r, s) if roof else rectangle(x0, y0, x1, y1))
        places.append(free_of(setup, bars, drawn_in(common(part, grounds[-1]), h, v)))
        body.append(joined(stuff, grown(places[-1], h, v)))
        prop_places.append(prop_points(setup, bars, grounds[-1], stuff, part))
        stands = [foot_at(setup, point) for point in prop_places[-1]]
        roof.append(joined(body[-1], *stands))
    return Greatest(grounds, places, body, prop_places, roof)


def kept(wanted, standing=None):
    """What of the greatest body lies in the slices."""
    body = greatest(wanted, standing).body
    return tuple([full(common(stands, part)) for stands, part in zip(body, wanted.slices)])


def lost(wanted, standing):
    """What of the kept body of the new bed is not in that of a standing."""
    now = kept(wanted, standing)
    return tuple([less(p, q) for p, q in zip(kept(wanted), now)])


def left_out(wanted, standing=None):
    """What of the slices is not in the greatest body."""
    body = greatest(wanted, standing).body
    return tuple([less(part, stands) for part, stands in zip(wanted.slices, body)])


def is_barred(setup, layer, x, y, standing=None):
    """Whether the foot or the carriage at a place touches what stands, with the tip at the height of a layer."""
    begun = checked_standing(setup, standing)
    return is_stopped(setup, bars_of(setup, begun, layer), (x, y))
