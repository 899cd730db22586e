"""Papers: certificates that a point can be laid by no code, piece by piece."""

from mostlaid.convex import grown_strip
from mostlaid.errors import Laid, NoPoint
from mostlaid.forms import is_lone
from mostlaid.greatest import around_place, foot_at, greatest
from mostlaid.measures import first_point
from mostlaid.patches import Patch
from mostlaid.ratios import below, is_whole, plus
from mostlaid.sets import common, cut_out, full, insides_meet, less, within
from mostlaid.setups import checked_standing, is_tuple_of, pairs

SLICE = "slice"
GROUND = "ground"
FOOT = "foot"
CARRIAGE = "carriage"


class Paper:
    """A certificate: a layer, a point, and pieces that are said to bar all places whose foot covers the point."""

    def __init__(self, layer, point, pieces):
        self.layer = layer
        self.point = pairs(point) if is_tuple_of(point, 2) else point
        self.pieces = tuple(pieces)

    def __eq__(self, other):
        return (isinstance(other, Paper) and self.layer == other.layer and self.point == other.point
                and self.pieces == other.pieces)

    def __len__(self):
        return len(self.pieces)


def are_tuples(value, many):
    """Whether any value is a tuple of so many numbers, all of them tuples."""
    return is_tuple_of(value, many) and not any([isinstance(item, int) for item in value])


def is_strip(value):
    """Whether any value is a strip that is not lone."""
    if not are_tuples(value, 4):
        return False
    a, b, c, d = value
    return not below(b, a) and not below(d, c) and not is_lone(value)


def is_piece(value):
    """Whether any value is a piece."""
    if not isinstance(value, tuple) or len(value) != 5 or value[0] not in (SLICE, GROUND, FOOT, CARRIAGE):
        return False
    return is_whole(value[1]) and are_tuples(value[2:4], 2) and below(value[2], value[3]) and is_strip(value[4])


def strip_patch(low, high, strip):
    """The patch of a strip that is not lone."""
    return Patch((low, high), ((strip[:2],), (strip[2:],)), ((strip,),))


def layers_above(setup, layer, gap):
    """The layers whose upper heights are more than a gap above that of a layer."""
    tip = plus(setup.heights[layer], gap)
    return [other for other in range(layer + 1, setup.layers + 1) if below(tip, setup.heights[other])]


def is_true(wanted, begun, ground, layer, piece):
    """Whether a piece is true for a layer with this ground, and for what stands."""
    kind, number, low, high, strip = piece
    patch = strip_patch(low, high, strip)
    if kind in (SLICE, GROUND):
        barring = wanted.slices[layer - 1] if kind == SLICE else ground
        return number == 0 and not insides_meet(patch, barring)
    gap = wanted.setup.gap if kind == CARRIAGE else 0
    return number in layers_above(wanted.setup, layer, gap) and within(patch, begun[number - 1])


def barred_by(setup, piece):
    """The patch inside which all places are barred by a piece."""
    kind, _, low, high, strip = piece
    h, v = setup.carriage if kind == CARRIAGE else setup.foot
    return grown_strip(low, high, strip, h, v)


def is_inside(wanted, layer, point):
    """Whether any value is a point inside the slice of a layer, which may be no layer."""
    if not 1 <= layer <= wanted.setup.layers or not is_tuple_of(point, 2):
        return False
    return wanted.slices[layer - 1].has_inside(point[0], point[1])


def flaw(wanted, paper, standing=None):
    """None if a certificate holds, otherwise the first thing that is wrong with it."""
    begun = checked_standing(wanted.setup, standing)
    if not is_inside(wanted, paper.layer, paper.point):
        return ("point",)
    ground = greatest(wanted, begun).grounds[paper.layer - 1]
    free = foot_at(wanted.setup, paper.point)
    for index, piece in enumerate(paper.pieces):
        if not is_piece(piece) or not is_true(wanted, begun, ground, paper.layer, piece):
            return ("piece", index)
        free = cut_out(free, barred_by(wanted.setup, piece))
    if free:
        x, y = first_point(free)
        return ("free", x, y)
    return None


def pieces_of(kind, number, patch):
    """The pieces of the strips of a patch made full."""
    return [(kind, number, low, high, strip) for low, high, strip in full(patch).strips()]


def all_pieces(wanted, begun, ground, layer, point):
    """All pieces that can bar places whose foot covers a point, in their order."""
    setup, part = wanted.setup, wanted.slices[layer - 1]
    h, v = setup.foot
    c, d = setup.carriage
    near = around_place(point, (plus(h, h), plus(v, v)))
    nearby = around_place(point, (plus(h, c), plus(v, d)))
    found = pieces_of(SLICE, 0, less(near, part)) + pieces_of(GROUND, 0, less(common(near, part), ground))
    for other in layers_above(setup, layer, 0):
        found.extend(pieces_of(FOOT, other, common(near, begun[other - 1])))
    for other in layers_above(setup, layer, setup.gap):
        found.extend(pieces_of(CARRIAGE, other, common(nearby, begun[other - 1])))
    return found


def without_needless(setup, pieces, frame):
    """The pieces without those, from the first one on, without which the others that are left bar all of a frame."""
    later = [frame]
    for piece in pieces[:0:-1]:
        later.append(cut_out(later[-1], barred_by(setup, piece)))
    found = []
    free = frame
    for piece, behind in zip(pieces, later[::-1]):
        if common(free, behind):
            found.append(piece)
            free = cut_out(free, barred_by(setup, piece))
    return found


def certificate(wanted, layer, point, standing=None):
    """A certificate that a point inside the slice of a layer can be laid by no code."""
    begun = checked_standing(wanted.setup, standing)
    if not is_inside(wanted, layer, point):
        raise NoPoint(layer, point)
    best = greatest(wanted, begun)
    if point in best.body[layer - 1]:
        raise Laid(layer, point)
    pieces = all_pieces(wanted, begun, best.grounds[layer - 1], layer, pairs(point))
    return Paper(layer, point, without_needless(wanted.setup, pieces, foot_at(wanted.setup, point)))
