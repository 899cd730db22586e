"""Setups of printers, wanted bodies, and what stands."""

from mostlaid.errors import BadLayers, BadSetup
from mostlaid.patches import Patch, nothing
from mostlaid.ratios import below, is_number, pair, sort_keys, times
from mostlaid.sets import full

MOST_HEIGHTS = 9
MOST_POINTS = 25


class Setup:
    """The heights of the layers, the bed, the foot and the carriage of a printer, and what may carry new stuff."""

    def __init__(self, heights, bed, *, foot=((1, 2), (1, 2)), carriage=None, gap=0, reach=(0, 0), raster=()):
        if not are_heights(heights):
            raise BadSetup("heights")
        if not is_bed(bed):
            raise BadSetup("bed")
        if not is_tuple_of(foot, 2) or not all([below((0, 1), pair(half)) for half in foot]):
            raise BadSetup("foot")
        if carriage is not None and not is_carriage(carriage, foot):
            raise BadSetup("carriage")
        if not is_number(gap) or below(pair(gap), (0, 1)):
            raise BadSetup("gap")
        if not is_tuple_of(reach, 2) or any([below(pair(far), (0, 1)) for far in reach]):
            raise BadSetup("reach")
        if not is_raster(raster):
            raise BadSetup("raster")
        self.heights = pairs(heights)
        self.bed = pairs(bed)
        self.foot = pairs(foot)
        self.carriage = pairs(foot if carriage is None else carriage)
        self.gap = pair(gap)
        self.reach = pairs(reach)
        self.raster = points_in_order([pairs(point) for point in raster])

    @property
    def layers(self):
        """The number of layers."""
        return len(self.heights) - 1

    def layer_at(self, z):
        """The layer whose upper height is z, or None."""
        if not is_number(z) or pair(z) not in self.heights[1:]:
            return None
        return self.heights.index(pair(z))

    def __eq__(self, other):
        return (isinstance(other, Setup) and self.heights == other.heights and self.bed == other.bed
                and self.foot == other.foot and self.carriage == other.carriage and self.gap == other.gap
                and self.reach == other.reach and self.raster == other.raster)

    @classmethod
    def even(cls, layers, bed, thickness=1):
        """The setup with layers of one thickness."""
        # More heights than a setup may have are refused, however many they are.
        many = min(layers, MOST_HEIGHTS) + 1
        return cls([times(k, thickness) for k in range(many)], bed)


def pairs(numbers):
    """The tuple of some numbers, with tuples for numbers."""
    return tuple([pair(number) for number in numbers])


def is_tuple_of(value, many):
    """Whether any value is a tuple of so many numbers."""
    return isinstance(value, tuple) and len(value) == many and all([is_number(item) for item in value])


def are_heights(value):
    """Whether any value is a list or tuple of 2 to 9 ascending numbers that begins with 0."""
    if not isinstance(value, (list, tuple)) or not 2 <= len(value) <= MOST_HEIGHTS:
        return False
    if not all([is_number(item) for item in value]) or pair(value[0]) != (0, 1):
        return False
    return all([below(pair(low), pair(high)) for low, high in zip(value, value[1:])])


def is_bed(value):
    """Whether any value is a tuple (x0, y0, x1, y1) with x0 < x1 and y0 < y1."""
    if not is_tuple_of(value, 4):
        return False
    x0, y0, x1, y1 = pairs(value)
    return below(x0, x1) and below(y0, y1)


def is_carriage(value, foot):
    """Whether any value is a tuple of two numbers that are at least those of a foot."""
    return is_tuple_of(value, 2) and not any([below(pair(wide), pair(half)) for wide, half in zip(value, foot)])


def is_raster(value):
    """Whether any value is a list or tuple of at most 25 points."""
    if not isinstance(value, (list, tuple)) or len(value) > MOST_POINTS:
        return False
    return all([is_tuple_of(item, 2) for item in value])


def points_in_order(points):
    """The tuple of some points by y and then by x, without duplicates."""
    rights = sort_keys([x for x, _ in points])
    ups = sort_keys([y for _, y in points])
    table = {(up, right): point for up, right, point in zip(ups, rights, points)}
    return tuple([table[key] for key in sorted(table)])


class Wanted:
    """A setup and a full patch for each layer, its slice."""

    def __init__(self, setup, slices):
        self.slices = checked_layers(setup, slices)
        self.setup = setup


def new_bed(setup):
    """The standing in which nothing stands."""
    return tuple([nothing() for _ in range(setup.layers)])


def checked_layers(setup, items):
    """The tuple of a list or tuple with a full patch for each layer; any other value is refused."""
    if not isinstance(items, (list, tuple)) or len(items) != setup.layers:
        raise BadLayers(0)
    for at, item in enumerate(items):
        if not isinstance(item, Patch) or full(item) != item:
            raise BadLayers(at + 1)
    return tuple(items)


def checked_standing(setup, standing):
    """The tuple of what stands in each layer, which is nothing for None; any wrong value is refused."""
    return new_bed(setup) if standing is None else checked_layers(setup, standing)
