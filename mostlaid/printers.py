"""The plain machine, which keeps what stood at first and each laid stroke by itself."""

from mostlaid.coderows import read_row
from mostlaid.machines import Terms, begun_grounds, begun_state, run_code, state_behind
from mostlaid.measures import box
from mostlaid.props import borne_by
from mostlaid.ratios import below
from mostlaid.sets import insides_meet, joined, less
from mostlaid.setups import checked_standing


class Sweep:
    """A sweep that has been laid, with what may rest on it and the boxes of both."""

    def __init__(self, setup, swept):
        self.swept = swept
        self.bearing = borne_by(setup, swept)
        self.frame = box(swept)
        self.bearing_frame = box(self.bearing)


def are_apart(frame, other):
    """Whether two boxes (x0, y0, x1, y1) have no inside point in common."""
    return not (below(frame[0], other[2]) and below(other[0], frame[2])
                and below(frame[1], other[3]) and below(other[1], frame[3]))


class SweepPile:
    """A pile that keeps each laid sweep by itself; begun and grounds are as they were at first."""

    def __init__(self, setup, begun, grounds, sweeps, patches):
        self.setup = setup
        self.begun = begun
        self.grounds = grounds
        self.sweeps = sweeps
        self.patches = patches

    def meets(self, layer, swept):
        """Whether a point is both inside a sweep and inside what stands in a layer."""
        if insides_meet(swept, self.begun[layer - 1]):
            return True
        frame = box(swept)
        return any([insides_meet(swept, laid.swept) for laid in self.sweeps[layer - 1]
                    if not are_apart(frame, laid.frame)])

    def hanging(self, layer, swept):
        """What of a sweep in a layer rests on nothing."""
        left = less(swept, self.grounds[layer - 1])
        frame = box(swept)
        for laid in self.sweeps[layer - 2] if layer > 1 else []:
            if left and not are_apart(frame, laid.bearing_frame):
                left = less(left, laid.bearing)
        return left

    def with_sweep(self, layer, swept):
        """The pile in which a sweep stands in a layer, too."""
        at = layer - 1
        sweeps, patches = list(self.sweeps), list(self.patches)
        sweeps[at] = sweeps[at] + (Sweep(self.setup, swept),)
        # What stands is asked for far more often than it changes.
        patches[at] = joined(patches[at], swept)
        return SweepPile(self.setup, self.begun, self.grounds, tuple(sweeps), tuple(patches))


class Printer:
    """The plain machine: it does rows of code one by one, or refuses them."""

    def __init__(self, setup, *, standing=None, wanted=None, careful=False):
        begun = checked_standing(setup, standing)
        self._terms = Terms(setup, wanted, careful)
        pile = SweepPile(setup, begun, begun_grounds(setup, begun), tuple([() for _ in begun]), begun)
        self._state = begun_state(self._terms, pile)
        self._busy = False

    @property
    def place(self):
        """The place of the foot."""
        return self._state.spot

    @property
    def tip(self):
        """The height of the tip."""
        return self._state.height

    @property
    def clock(self):
        """The time that all rows have taken."""
        return self._state.time

    @property
    def used(self):
        """How much stuff has been laid."""
        return self._state.spent

    @property
    def standing(self):
        """What stands in each layer."""
        return self._state.pile.patches

    @property
    def busy(self):
        """Whether run or do_all does rows just now."""
        return self._busy

    def do(self, row):
        """Does one row of code."""
        self._state = state_behind(self._terms, self._state, row)

    def do_all(self, *rows):
        """Does all of some rows, or none."""
        ahead = self._state
        finished = None
        self._busy = True
        try:
            for row in rows:
                self.do(row)
            finished = True
        finally:
            self._busy = False
            if finished is None:
                self._state = ahead

    def run(self, code, *, cut=None, skip=False):
        """Does rows in order; the list of the refused ones, as tuples of the index and the name of the error."""
        self._busy = True
        try:
            return run_code(self, self._terms.setup, code, cut, skip)
        finally:
            self._busy = False

    def __call__(self, line):
        """Does the row of the text of one line."""
        self.do(read_row(line))

    def twin(self):
        """An independent machine in the same state."""
        other = Printer(self._terms.setup)
        other._terms = self._terms
        other._state = self._state
        return other

    def __repr__(self):
        return f"Printer({len(self._terms.setup.heights) - 1} layers)"
