"""The greatest body that any code can still leave, from what stands."""

from mostlaid.feet import drawn_in, grown, off
from mostlaid.patches import nothing, rectangle
from mostlaid.ratios import below, minus, plus
from mostlaid.sets import common, full, insides_meet, joined, less, within
from mostlaid.setups import checked_standing


class Greatest:
    """For each layer its ground, the places of the foot, the body, the places for props, and the roof."""

    def __init__(self, grounds, places, body, prop_places, roof):
        self.grounds = tuple(grounds)
        self.places = tuple(places)
        self.body = tuple(body)
        self.prop_places = tuple(prop_places)
        self.roof = tuple(roof)


def foot_at(setup, place):
    """The rectangle of the foot at a place."""
    return around_place(place, setup.foot)


def around_place(place, halves):
    """The rectangle with two half widths at a place."""
    x, y = place
    return rectangle(minus(x, halves[0]), minus(y, halves[1]), plus(x, halves[0]), plus(y, halves[1]))


def stands_above(setup, begun, height):
    """What stands in all layers that reach above a height, seen from above."""
    pieces = [stuff for stuff, upper in zip(begun, setup.heights[1:]) if below(height, upper)]
    return joined(*pieces)


def bars_of(setup, begun, layer):
    """What bars the foot and what bars the carriage, with the tip at the height of a layer."""
    # An open set that meets the inside of a union of closed sets meets the inside of one of them,
    # so the layers may be taken together.
    tip = setup.heights[layer]
    return stands_above(setup, begun, tip), stands_above(setup, begun, plus(tip, setup.gap))


def bars_of_sweep(setup, swept, layer, higher):
    """What of a sweep in a higher layer bars the foot and the carriage, with the tip at the height of a layer."""
    by_carriage = below(plus(setup.heights[layer], setup.gap), setup.heights[higher])
    return swept, (swept if by_carriage else nothing())


def is_stopped(setup, bars, place):
    """Whether the foot or the carriage at a place meets what bars them."""
    by_foot, by_carriage = bars
    return (insides_meet(foot_at(setup, place), by_foot)
            or insides_meet(around_place(place, setup.carriage), by_carriage))


def free_of(setup, bars, patch):
    """The places of a patch at which neither the foot nor the carriage meets what bars them."""
    by_foot, by_carriage = bars
    left = off(patch, by_foot, setup.foot[0], setup.foot[1])
    return off(left, by_carriage, setup.carriage[0], setup.carriage[1])


def is_new_and_outside(setup, point, stuff, part):
    """Whether the rectangle at a point is not all there yet, and has no inside point inside the slice."""
    stand = foot_at(setup, point)
    return not within(stand, stuff) and not insides_meet(stand, part)


def prop_points(setup, bars, ground, stuff, part):
    """The points of the raster at which a prop may stand in a layer, on its ground and outside its slice."""
    return tuple([point for point in setup.raster if within(foot_at(setup, point), ground)
                  and is_new_and_outside(setup, point, stuff, part) and not is_stopped(setup, bars, point)])


def with_feet(setup, patch, points):
    """A patch with the rectangles of the foot at some points."""
    stands = [foot_at(setup, point) for point in points]
    return joined(patch, *stands)


class Storey:
    """What belongs to one layer of a greatest body."""

    def __init__(self, ground, places, body, points, roof):
        self.ground = ground
        self.places = places
        self.body = body
        self.points = points
        self.roof = roof


def whole(storeys):
    """The greatest body of its layers, from below."""
    return Greatest([one.ground for one in storeys], [one.places for one in storeys], [one.body for one in storeys],
                    [one.points for one in storeys], [one.roof for one in storeys])


def storey_of(best, at):
    """What belongs to a layer of a greatest body, by its index."""
    return Storey(best.grounds[at], best.places[at], best.body[at], best.prop_places[at], best.roof[at])


def ground_on(setup, storeys):
    """What the next layer rests on: the bed, or what the layer below can become and the reach around it."""
    if storeys:
        return grown(storeys[-1].roof, setup.reach[0], setup.reach[1])
    x0, y0, x1, y1 = setup.bed
    return rectangle(x0, y0, x1, y1)


def built(wanted, begun, at, ground):
    """What belongs to a layer, by its index, on a ground."""
    setup, part, stuff = wanted.setup, wanted.slices[at], begun[at]
    bars = bars_of(setup, begun, at + 1)
    h, v = setup.foot
    places = free_of(setup, bars, drawn_in(common(part, ground), h, v))
    points = prop_points(setup, bars, ground, stuff, part)
    body = joined(stuff, grown(places, h, v))
    return Storey(ground, places, body, points, with_feet(setup, body, points))


def greatest(wanted, standing=None):
    """The greatest body from what stands."""
    begun = checked_standing(wanted.setup, standing)
    storeys = []
    for at in range(len(begun)):
        storeys.append(built(wanted, begun, at, ground_on(wanted.setup, storeys)))
    return whole(storeys)


def thinned(setup, storey, stuff, bars):
    """What is left for a layer when something more bars places in it; stuff is what stands in it."""
    places = free_of(setup, bars, storey.places)
    points = tuple([point for point in storey.points if not is_stopped(setup, bars, point)])
    if places == storey.places and points == storey.points:
        return storey
    # What stands is in the body in any case, so where all of the body stands it stays.
    body = stuff if stuff == storey.body else joined(stuff, grown(places, setup.foot[0], setup.foot[1]))
    return Storey(storey.ground, places, body, points, with_feet(setup, body, points))


def thickened(setup, storey, stuff, swept):
    """What belongs to a layer when a sweep has been laid in it; stuff is what stands in it now."""
    points = tuple([point for point in storey.points if not within(foot_at(setup, point), stuff)])
    return Storey(storey.ground, storey.places, joined(storey.body, swept), points, joined(storey.roof, swept))


def greatest_behind(wanted, ahead, begun, layer, swept):
    """The greatest body from what stands, where ahead is the one from what stood before a sweep was laid in a layer."""
    setup = wanted.setup
    storeys = []
    for at, stuff in enumerate(begun):
        # As long as all below can become what it could, only the sweep itself makes a difference.
        if storeys and storeys[-1].roof != ahead.roof[at - 1]:
            storeys.append(built(wanted, begun, at, ground_on(setup, storeys)))
        elif at + 1 < layer:
            bars = bars_of_sweep(setup, swept, at + 1, layer)
            storeys.append(thinned(setup, storey_of(ahead, at), stuff, bars))
        elif at + 1 == layer:
            storeys.append(thickened(setup, storey_of(ahead, at), stuff, swept))
        else:
            storeys.append(storey_of(ahead, at))
    return whole(storeys)


def kept_part(wanted, best, at):
    """What of a layer of a greatest body, by its index, lies in the slice."""
    return full(common(best.body[at], wanted.slices[at]))


def lost_layer(wanted, ahead, behind):
    """The lowest layer in which the kept body of one greatest body is not within that of another one, or None."""
    for at, body in enumerate(ahead.body):
        if body != behind.body[at] and less(kept_part(wanted, ahead, at), kept_part(wanted, behind, at)):
            return at + 1
    return None


def kept(wanted, standing=None):
    """What of the greatest body lies in the slices."""
    best = greatest(wanted, standing)
    return tuple([kept_part(wanted, best, at) for at in range(len(best.body))])


def lost(wanted, standing):
    """What of the kept body of the new bed is not in that of a standing."""
    now = kept(wanted, standing)
    return tuple([less(p, q) for p, q in zip(kept(wanted), now)])


def left_out(wanted, standing=None):
    """What of the slices is not in the greatest body."""
    body = greatest(wanted, standing).body
    return tuple([less(part, stands) for part, stands in zip(wanted.slices, body)])


def is_barred(setup, layer, x, y, standing=None):
    """Whether the foot or the carriage at a place touches what stands, with the tip at the height of a layer."""
    begun = checked_standing(setup, standing)
    return is_stopped(setup, bars_of(setup, begun, layer), (x, y))
