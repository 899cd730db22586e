"""A slow model of the greatest body and of props, for sets with all corners at multiples of 1/2.

The lines at these multiples divide the plane into points, open segments and open squares, the
cells. The cell (i, j) has the point (i / 4, j / 4): an even index stands for a line, an odd one
for what lies between two lines. A set is a Python set of cells. All cells lie in a frame.
"""

LOW, HIGH = -14, 34


def reps():
    return [(i, j) for i in range(LOW, HIGH + 1) for j in range(LOW, HIGH + 1)]


def cells_of(patch):
    return {(i, j) for i, j in reps() if patch.has(quarter(i), quarter(j))}


def quarter(i):
    """The number i / 4."""
    return (i // 4, 1) if i % 4 == 0 else (i // 2, 2) if i % 2 == 0 else (i, 4)


def quarters(number):
    """A number as so many quarters."""
    if isinstance(number, int):
        return 4 * number
    assert 4 * number[0] % number[1] == 0
    return 4 * number[0] // number[1]


def closure(cells):
    found = set()
    for i, j in cells:
        found.update((a, b) for a in ends(i) for b in ends(j))
    return found


def ends(i):
    return (i - 1, i, i + 1) if i % 2 else (i,)


def insides(cells):
    """The open squares of a set; for a full set they tell all."""
    return {(i, j) for i, j in cells if i % 2 and j % 2}


def full(cells):
    return closure(insides(cells))


def less(p, q):
    return closure(p - q)


def rectangle_at(cell, halves):
    """The cells that the rectangle around the point of a cell meets."""
    (i, j), (h, v) = cell, halves
    return {(a, b) for a in range(i - h, i + h + 1) for b in range(j - v, j + v + 1)}


def grown(cells, halves):
    found = set()
    for cell in cells:
        found |= rectangle_at(cell, halves)
    return found


def drawn_in(cells, halves):
    return {cell for cell in cells if rectangle_at(cell, halves) <= cells}


def square_meets(cell, halves, stuff):
    """Whether the inside of the rectangle at a cell meets the inside of what stands."""
    return bool(insides(rectangle_at(cell, halves)) & stuff)


class Model:
    """All of [25] and [29], word by word, for a wanted body and a standing."""

    def __init__(self, wanted, standing):
        setup = wanted.setup
        self.heights = [quarters(z) for z in setup.heights]
        self.foot = tuple(quarters(x) for x in setup.foot)
        self.carriage = tuple(quarters(x) for x in setup.carriage)
        self.gap = quarters(setup.gap)
        self.reach = tuple(quarters(x) for x in setup.reach)
        self.raster = [(quarters(x), quarters(y)) for x, y in setup.raster]
        self.slices = [cells_of(p) for p in wanted.slices]
        self.begun = [cells_of(p) for p in standing]
        self.layers = len(self.begun)
        x0, y0, x1, y1 = [quarters(x) for x in setup.bed]
        self.bed = {(i, j) for i, j in reps() if x0 <= i <= x1 and y0 <= j <= y1}
        self.grounds, self.places, self.body, self.prop_places, self.roof = [], [], [], [], []
        for layer in range(1, self.layers + 1):
            self.work_out(layer)

    def bars(self, cell, layer):
        tip = self.heights[layer]
        for j in range(1, self.layers + 1):
            stuff = insides(self.begun[j - 1])
            if self.heights[j] > tip and square_meets(cell, self.foot, stuff):
                return True
            if self.heights[j] > tip + self.gap and square_meets(cell, self.carriage, stuff):
                return True
        return False

    def work_out(self, layer):
        ground = self.bed if layer == 1 else grown(self.roof[-1], self.reach)
        part, stuff = self.slices[layer - 1], self.begun[layer - 1]
        places = {cell for cell in drawn_in(part & ground, self.foot) if not self.bars(cell, layer)}
        body = stuff | grown(places, self.foot)
        points = [point for point in self.raster if self.may_stand(point, layer, ground)]
        roof = set(body)
        for point in points:
            roof |= rectangle_at(point, self.foot)
        self.grounds.append(ground)
        self.places.append(places)
        self.body.append(body)
        self.prop_places.append(points)
        self.roof.append(roof)

    def may_stand(self, point, layer, ground):
        stand = rectangle_at(point, self.foot)
        return (not self.bars(point, layer) and stand <= ground and not stand <= self.begun[layer - 1]
                and not insides(stand) & self.slices[layer - 1])

    def kept(self):
        return [full(body & part) for body, part in zip(self.body, self.slices)]

    def islands(self, layer):
        """The parts of the places, as sets of cells, by their first points."""
        left, found = set(self.places[layer - 1]), []
        while left:
            first = min(left, key=lambda cell: (cell[1], cell[0]))
            part, waiting = {first}, [first]
            while waiting:
                here = waiting.pop()
                for cell in around(here):
                    touches = cell in closure({here}) or here in closure({cell})
                    if touches and cell in left and cell not in part:
                        part.add(cell)
                        waiting.append(cell)
            left -= part
            if not grown(part, self.foot) <= self.begun[layer - 1]:
                found.append(part)
        return found

    def settle(self):
        """The loads and the props of all layers."""
        loads, props = [], []
        load = set()
        for layer in range(self.layers, 0, -1):
            left = list(self.prop_places[layer - 1])
            for point in list(left):
                others = [other for other in left if other != point]
                if load <= self.bearing(layer, others):
                    left = others
            loads.insert(0, load)
            props.insert(0, left)
            load = set()
            for island in self.islands(layer):
                load |= grown(island, self.foot)
            for point in left:
                load |= rectangle_at(point, self.foot)
        return loads, props

    def bearing(self, layer, points):
        """What the body of a layer and props at points can bear."""
        stands = set(self.body[layer - 1])
        for point in points:
            stands |= rectangle_at(point, self.foot)
        return grown(stands, self.reach)


def around(cell):
    return [(cell[0] + a, cell[1] + b) for a in (-1, 0, 1) for b in (-1, 0, 1)]


def within_frame(cells):
    """A set without what lies beyond the frame."""
    return {(i, j) for i, j in cells if LOW <= i <= HIGH and LOW <= j <= HIGH}
