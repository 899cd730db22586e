"""Props: what must be laid outside the slices so that nothing hangs."""

from mostlaid.errors import NoProp
from mostlaid.feet import grown
from mostlaid.greatest import foot_at, greatest
from mostlaid.measures import parts
from mostlaid.patches import nothing
from mostlaid.sets import joined, less, within
from mostlaid.setups import checked_standing, is_tuple_of, pairs


def stuff_at(setup, places):
    """What the foot lays at some places."""
    return grown(places, setup.foot[0], setup.foot[1])


def borne_by(setup, patch):
    """What may rest on a patch."""
    return grown(patch, setup.reach[0], setup.reach[1])


def new_islands(setup, begun, best):
    """For each layer the list of the parts of its places at which something new is laid."""
    found = []
    for stuff, places in zip(begun, best.places):
        found.append([part for part in parts(places) if not within(stuff_at(setup, part), stuff)])
    return found


def weight_of(setup, listed, points):
    """What islands and props of a layer put on the layer below."""
    pieces = [stuff_at(setup, island) for island in listed] + [foot_at(setup, point) for point in points]
    return joined(*pieces)


def needed(setup, weight, body, points):
    """The props that are left of some points when each one without which nothing hangs is struck."""
    hanging = less(weight, borne_by(setup, body))
    bearing = {point: borne_by(setup, foot_at(setup, point)) for point in points}
    left = list(points)
    for point in points:
        others = [other for other in left if other != point]
        grounds = [bearing[other] for other in others]
        if within(hanging, joined(*grounds)):
            left = others
    return tuple(left)


class Supports:
    """The greatest body, and for each layer the list of its islands, the load on it, and its props."""

    def __init__(self, wanted, standing):
        setup = wanted.setup
        begun = checked_standing(setup, standing)
        self.best = greatest(wanted, begun)
        self.listed = new_islands(setup, begun, self.best)
        weight = nothing()
        weights, chosen = [], []
        for at in range(setup.layers - 1, -1, -1):
            weights.append(weight)
            chosen.append(needed(setup, weight, self.best.body[at], self.best.prop_places[at]))
            weight = weight_of(setup, self.listed[at], chosen[-1])
        self.weights = weights[::-1]
        self.chosen = chosen[::-1]


def props(wanted, standing=None):
    """The tuple with the tuple of the props of each layer."""
    return tuple(Supports(wanted, standing).chosen)


def islands(wanted, standing=None):
    """The tuple with the list of the islands of each layer."""
    begun = checked_standing(wanted.setup, standing)
    return tuple(new_islands(wanted.setup, begun, greatest(wanted, begun)))


def load(wanted, layer, standing=None):
    """What the islands and the props of the layer above put on a layer."""
    return Supports(wanted, standing).weights[layer - 1]


def hanging_without(wanted, layer, place, standing=None):
    """What of the load on a layer would hang without one of its props."""
    setup = wanted.setup
    found = Supports(wanted, standing)
    points = found.chosen[layer - 1]
    if not is_tuple_of(place, 2) or pairs(place) not in points:
        raise NoProp(layer, place)
    others = [foot_at(setup, point) for point in points if point != pairs(place)]
    return less(found.weights[layer - 1], borne_by(setup, joined(found.best.body[layer - 1], *others)))
