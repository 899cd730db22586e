"""The quick machine, which keeps one patch for each layer."""

from mostlaid.coderows import read_row
from mostlaid.machines import Terms, begun_grounds, begun_state, run_code, state_behind
from mostlaid.props import borne_by
from mostlaid.sets import insides_meet, joined, less
from mostlaid.setups import checked_standing


class LayerPile:
    """A pile that keeps for each layer what stands in it, and the ground that it rests on."""

    def __init__(self, setup, grounds, patches):
        self.setup = setup
        self.grounds = grounds
        self.patches = patches

    def meets(self, layer, swept):
        """Whether a point is both inside a sweep and inside what stands in a layer."""
        return insides_meet(swept, self.patches[layer - 1])

    def hanging(self, layer, swept):
        """What of a sweep in a layer rests on nothing."""
        return less(swept, self.grounds[layer - 1])

    def with_sweep(self, layer, swept):
        """The pile in which a sweep stands in a layer, too."""
        grounds, patches = list(self.grounds), list(self.patches)
        patches[layer - 1] = joined(patches[layer - 1], swept)
        if layer < len(grounds):
            grounds[layer] = joined(grounds[layer], borne_by(self.setup, swept))
        return LayerPile(self.setup, tuple(grounds), tuple(patches))


class QuickPrinter:
    """The quick machine: it answers as the plain one, row by row."""

    def __init__(self, setup, *, standing=None, wanted=None, careful=False):
        begun = checked_standing(setup, standing)
        self._terms = Terms(setup, wanted, careful)
        self._state = begun_state(self._terms, LayerPile(setup, begun_grounds(setup, begun), begun))
        self._busy = False

    @property
    def place(self):
        """The place of the foot."""
        return self._state.spot

    @property
    def tip(self):
        """The height of the tip."""
        return self._state.height

    @property
    def clock(self):
        """The time that all rows have taken."""
        return self._state.time

    @property
    def used(self):
        """How much stuff has been laid."""
        return self._state.spent

    @property
    def standing(self):
        """What stands in each layer."""
        return self._state.pile.patches

    @property
    def busy(self):
        """Whether run or do_all does rows just now."""
        return self._busy

    def do(self, row):
        """Does one row of code."""
        self._state = state_behind(self._terms, self._state, row)

    def do_all(self, *rows):
        """Does all of some rows, or none."""
        ahead = self._state
        finished = None
        self._busy = True
        try:
            for row in rows:
                self.do(row)
            finished = True
        finally:
            self._busy = False
            if finished is None:
                self._state = ahead

    def run(self, code, *, cut=None, skip=False):
        """Does rows in order; the list of the refused ones, as tuples of the index and the name of the error."""
        self._busy = True
        try:
            return run_code(self, self._terms.setup, code, cut, skip)
        finally:
            self._busy = False

    def __call__(self, line):
        """Does the row of the text of one line."""
        self.do(read_row(line))

    def twin(self):
        """An independent machine in the same state."""
        other = QuickPrinter(self._terms.setup)
        other._terms = self._terms
        other._state = self._state
        return other

    def __repr__(self):
        return f"QuickPrinter({len(self._terms.setup.heights) - 1} layers)"
