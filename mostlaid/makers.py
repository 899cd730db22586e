"""Makers: nets from two rings, from other nets, and from bodies in layers."""

from mostlaid.errors import BadLoft, Singular
from mostlaid.folds import folded
from mostlaid.forms import is_lone
from mostlaid.nets import Net, determinant, turned_about
from mostlaid.ratios import compare, plus, times


def loft(lower, z0, upper, z1):
    """The net between two lists of equally many points at two heights."""
    many = len(lower)
    if len(upper) != many or many < 3 or compare(z0, z1) >= 0:
        raise BadLoft()
    corners = [(x, y, z0) for x, y in lower] + [(x, y, z1) for x, y in upper]
    faces = []
    for i in range(many):
        j = (i + 1) % many
        faces.extend([(i, j, many + j), (i, many + j, many + i)])
    faces.extend([(0, j + 1, j) for j in range(1, many - 1)])
    faces.extend([(many, many + j, many + j + 1) for j in range(1, many - 1)])
    return Net(corners, faces)


def together(*nets):
    """The net with the corners and the faces of all nets, one behind another."""
    corners, faces = [], []
    for net in nets:
        first = len(corners)
        corners.extend(net.corners)
        faces.extend([(a + first, b + first, c + first) for a, b, c in net.faces])
    return Net(corners, faces)


def mapped(row, corner):
    """The sum of the products of a row of a table and a corner."""
    return folded([times(n, x) for n, x in zip(row, corner)], plus)


def placed(net, table, shift):
    """The net with its corners mapped by a table and moved; its faces still run as seen from outside."""
    turn = determinant(table[0], table[1], table[2])
    if turn[0] == 0:
        raise Singular()
    corners = []
    for corner in net.corners:
        corners.append(tuple([plus(mapped(row, corner), far) for row, far in zip(table, shift)]))
    faces = [turned_about(face) for face in net.faces] if turn[0] < 0 else net.faces
    return Net(corners, faces)


def strip_loft(low, high, strip, z0, z1):
    """The loft of a strip between two heights of the plane, from one height of space to another one."""
    a, b, c, d = strip
    ring = [(a, low), (b, low), (d, high), (c, high)]
    return loft(ring, z0, ring, z1)


def net_of(heights, bodies):
    """The net of the lofts of all strips of bodies that are not lone, layer by layer from below."""
    pieces = []
    for at, body in enumerate(bodies):
        pieces.extend([strip_loft(low, high, strip, heights[at], heights[at + 1])
                       for low, high, strip in body.strips() if not is_lone(strip)])
    return together(*pieces)
