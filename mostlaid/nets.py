"""Nets of triangles: their corners, faces and edges, and their volume."""

from mostlaid.errors import BadNet
from mostlaid.folds import folded
from mostlaid.ratios import is_number, is_whole, minus, pair, plus, times


class Net:
    """Corners, which are tuples of three numbers, and faces, which are tuples of three indexes of corners."""

    def __init__(self, corners, faces):
        for at, corner in enumerate(corners):
            if not is_corner(corner):
                raise BadNet("corner", at)
        for at, face in enumerate(faces):
            if not is_face(face, len(corners)):
                raise BadNet("face", at)
        self.corners = tuple([(pair(x), pair(y), pair(z)) for x, y, z in corners])
        self.faces = tuple(faces)

    def __eq__(self, other):
        return isinstance(other, Net) and self.corners == other.corners and self.faces == other.faces


def is_corner(value):
    """Whether any value is a tuple of three numbers."""
    return isinstance(value, tuple) and len(value) == 3 and all([is_number(item) for item in value])


def is_face(value, many):
    """Whether any value is a tuple of three indexes of so many corners."""
    if not isinstance(value, tuple) or len(value) != 3:
        return False
    return all([is_whole(item) and 0 <= item < many for item in value])


def is_proper(face):
    """Whether the indexes of a face are three different ones."""
    a, b, c = face
    return a != b and b != c and c != a


def turned_about(face):
    """The face that runs the other way."""
    a, b, c = face
    return (a, c, b)


def face_steps(face):
    """The steps from one index to another one along which a face runs."""
    a, b, c = face
    return [step for step in ((a, b), (b, c), (c, a)) if step[0] != step[1]]


def edge_of(step):
    """The edge along which a step goes."""
    return (min(step), max(step))


def surpluses(faces):
    """The open edges of faces, ascending, each with its surplus."""
    found = {}
    for face in faces:
        for step in face_steps(face):
            edge = edge_of(step)
            found[edge] = found.get(edge, 0) + (1 if step == edge else -1)
    return [edge + (found[edge],) for edge in sorted(found) if found[edge] != 0]


def open_edges(net):
    """The list of the tuples (a, b, surplus) of the edges whose surplus is not 0, ascending."""
    return surpluses(net.faces)


def is_closed(net):
    """Whether a net has no open edges."""
    return not open_edges(net)


def determinant(p, q, r):
    """The determinant with three rows of three numbers."""
    first = times(p[0], minus(times(q[1], r[2]), times(q[2], r[1])))
    second = times(p[1], minus(times(q[2], r[0]), times(q[0], r[2])))
    third = times(p[2], minus(times(q[0], r[1]), times(q[1], r[0])))
    return plus(plus(first, second), third)


def volume(net):
    """One sixth of the sum of the determinants of the corners of the faces."""
    shares = [determinant(net.corners[a], net.corners[b], net.corners[c]) for a, b, c in net.faces]
    return times(folded(shares, plus), (1, 6)) if shares else (0, 1)
