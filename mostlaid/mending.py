"""Mending: corners that are one place, edges on which corners stand, faces turned about, and holes."""

from math import lcm

from mostlaid.errors import NotTwo, Twisted
from mostlaid.nets import Net, edge_of, face_steps, is_proper, open_edges, surpluses, turned_about


def welded(net):
    """The net with each place of a corner once, and without faces that then have two equal indexes."""
    number_of = {}
    for corner in net.corners:
        number_of.setdefault(corner, len(number_of))
    numbers = [number_of[corner] for corner in net.corners]
    faces = [(numbers[a], numbers[b], numbers[c]) for a, b, c in net.faces]
    return Net(list(number_of), proper_faces(faces))


def proper_faces(faces):
    """The faces without those that have two equal indexes."""
    return [face for face in faces if is_proper(face)]


def whole_places(corners):
    """Corners with integers for numbers, all made greater by the same factor."""
    scale = 1
    for corner in corners:
        scale = lcm(scale, corner[0][1], corner[1][1], corner[2][1])
    return [[n * (scale // d) for n, d in corner] for corner in corners]


def difference(p, q):
    """The three differences from one place to another one."""
    return [q[0] - p[0], q[1] - p[1], q[2] - p[2]]


def product_of(u, v):
    """The sum of the products of two times three integers."""
    return u[0] * v[0] + u[1] * v[1] + u[2] * v[2]


def lie_on_line(u, v):
    """Whether two times three integers are the differences along one line."""
    return u[1] * v[2] == u[2] * v[1] and u[2] * v[0] == u[0] * v[2] and u[0] * v[1] == u[1] * v[0]


def nearest_between(places, a, b):
    """The least index of those strictly between two places that is nearest to the first one; -1 if there is none."""
    along = difference(places[a], places[b])
    whole = product_of(along, along)
    best, nearest = -1, whole
    for at, place in enumerate(places):
        step = difference(places[a], place)
        share = product_of(step, along)
        if 0 < share < nearest and lie_on_line(step, along):
            best, nearest = at, share
    return best


def first_joint(faces, places, known):
    """The first open edge with a corner strictly between its ends, as (a, b, corner); None without one.

    known keeps what has been found for edges, since corners do not move.
    """
    for a, b, _ in surpluses(faces):
        if (a, b) not in known:
            known[(a, b)] = nearest_between(places, a, b)
        if known[(a, b)] >= 0:
            return a, b, known[(a, b)]
    return None


def split_at(face, edge, w):
    """The faces that stand for a face when a corner of an edge of it is put in."""
    a, b, c = face
    for p, q, r in ((a, b, c), (b, c, a), (c, a, b)):
        if edge_of((p, q)) == edge:
            return proper_faces([(p, w, r), (w, q, r)])
    return [face]


def jointed(net):
    """The net with the edges of its faces split at corners that stand on them, as long as these edges are open."""
    places = whole_places(net.corners)
    faces = proper_faces(net.faces)
    known = {}
    joint = first_joint(faces, places, known)
    while joint is not None:
        a, b, w = joint
        faces = [part for face in faces for part in split_at(face, (a, b), w)]
        joint = first_joint(faces, places, known)
    return Net(net.corners, faces)


def runs_along(faces):
    """For each edge the tuples (index, way) of the proper faces along it; way is whether from the lower index up."""
    found = {}
    for at, face in enumerate(faces):
        if is_proper(face):
            for step in face_steps(face):
                edge = edge_of(step)
                found.setdefault(edge, []).append((at, step == edge))
    return found


def face_neighbours(faces):
    """For each proper face the tuples (index, same) of its neighbours; same is whether they run one way."""
    runs = runs_along(faces)
    found = {at: [] for at, face in enumerate(faces) if is_proper(face)}
    for edge in sorted(runs):
        if len(runs[edge]) != 2:
            raise NotTwo(edge)
        (one, one_way), (other, other_way) = runs[edge]
        found[one].append((other, one_way == other_way))
        found[other].append((one, one_way == other_way))
    return found


def way_back(came_from, at):
    """The faces from one back to the face at which its set began."""
    found = [at]
    while came_from[found[-1]] != found[-1]:
        found.append(came_from[found[-1]])
    return found


def ring_of_faces(came_from, one, other):
    """The faces on the ways back from two neighbours to where these ways meet, as a ring."""
    first, second = way_back(came_from, one), way_back(came_from, other)
    meeting = [at for at in second if at in first][0]
    return first[:first.index(meeting) + 1] + second[:second.index(meeting)][::-1]


def turns_of(links):
    """For each face whether it must be turned about."""
    turns, came_from = {}, {}
    for begin in links:
        if begin in turns:
            continue
        turns[begin] = False
        came_from[begin] = begin
        waiting = [begin]
        while waiting:
            here = waiting.pop()
            for near, same in links[here]:
                wanted = turns[here] != same
                if near not in turns:
                    turns[near] = wanted
                    came_from[near] = here
                    waiting.append(near)
                elif turns[near] != wanted:
                    raise Twisted(ring_of_faces(came_from, here, near))
    return turns


def faced(net):
    """The net closed by turning faces about; the first face of each set of neighbours stays as it is."""
    turns = turns_of(face_neighbours(net.faces))
    faces = [turned_about(net.faces[at]) if turns[at] else net.faces[at] for at in sorted(turns)]
    return Net(net.corners, faces)


def least_connected(edges):
    """For each index on open edges the least index that is connected with it."""
    links = {}
    for a, b, _ in edges:
        links.setdefault(a, []).append(b)
        links.setdefault(b, []).append(a)
    found = {}
    for begin in sorted(links):
        if begin in found:
            continue
        found[begin] = begin
        waiting = [begin]
        while waiting:
            here = waiting.pop()
            for near in links[here]:
                if near not in found:
                    found[near] = begin
                    waiting.append(near)
    return found


def capped(net):
    """The net closed by faces from each open edge to the least index that is connected with it."""
    edges = open_edges(net)
    least_of = least_connected(edges)
    added = []
    for a, b, surplus in edges:
        # The index c is at most a, so it is never b.
        c = least_of[a]
        if c != a:
            face = (b, a, c) if surplus > 0 else (a, b, c)
            added.extend([face] * abs(surplus))
    return Net(net.corners, net.faces + tuple(added))
