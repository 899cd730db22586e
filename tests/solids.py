"""Nets for the tests."""

from fractions import Fraction

from mostlaid.makers import loft, placed, together
from mostlaid.nets import Net

TETRAHEDRON = Net([(0, 0, 0), (4, 0, 0), (0, 4, 0), (0, 0, 4)], [(0, 2, 1), (0, 1, 3), (1, 2, 3), (2, 0, 3)])

# Faces of closed surfaces that have only one side.
PROJECTIVE_PLANE = [(0, 1, 2), (0, 2, 3), (0, 3, 4), (0, 4, 5), (0, 5, 1), (1, 2, 4), (2, 3, 5), (3, 4, 1), (4, 5, 2),
                    (5, 1, 3)]


def box_net(x0, y0, z0, x1, y1, z1):
    """The net of a box."""
    ring = [(x0, y0), (x1, y0), (x1, y1), (x0, y1)]
    return loft(ring, z0, ring, z1)


def torus_faces(m, n, twisted=False):
    """The faces of a torus of m times n places, or of a bottle with one side; both are at least 3."""
    def place(i, j):
        if i == m:
            return (-j) % n if twisted else j % n
        return i * n + j % n
    faces = []
    for i in range(m):
        for j in range(n):
            a, b, c, d = place(i, j), place(i + 1, j), place(i + 1, j + 1), place(i, j + 1)
            faces.extend([(a, b, c), (a, c, d)])
    return faces


def points_of(many):
    """So many corners, of which no four lie in one plane."""
    return [(k, k * k, k * k * k) for k in range(many)]


def turned_out(net):
    """The net with all faces turned about."""
    return Net(net.corners, [(a, c, b) for a, b, c in net.faces])


def fractions_of(corner):
    return tuple(Fraction(n, d) for n, d in corner)


def random_solid(rng):
    pieces = []
    for _ in range(rng.randint(1, 3)):
        many = rng.randint(3, 5)
        rings = [[(rng.randint(-5, 5), rng.randint(-5, 5)) for _ in range(many)] for _ in range(2)]
        net = loft(rings[0], rng.randint(-4, 0), rings[1], rng.randint(1, 4))
        if rng.random() < 0.6:
            table = [[rng.randint(-1, 2) for _ in range(3)] for _ in range(3)]
            table[0][0] += 3
            table[1][1] += 4
            table[2][2] += 5
            net = placed(net, table, (rng.randint(-2, 2), 0, rng.randint(-2, 2)))
        pieces.append(turned_out(net) if rng.random() < 0.3 else net)
    return together(*pieces)
