"""Benches: wanted bodies that are printed one after another, each whole."""

from mostlaid.errors import NotOrder, Ring
from mostlaid.fillings import row_strokes
from mostlaid.jobs import Plan, job_hits
from mostlaid.makings import job_rows, with_job
from mostlaid.ratios import is_whole
from mostlaid.setups import new_bed


def is_behind(setup, plan, other):
    """Whether some job of a plan hits some job of another plan."""
    return any([job_hits(setup, one, hit) for one in plan.jobs for hit in other.jobs])


class Bench:
    """Wanted bodies with one setup, and which of them must stand ahead of which."""

    def __init__(self, *wanteds):
        self.wanteds = wanteds
        self.plans = tuple([Plan(wanted) for wanted in wanteds])
        # For each body whether each body must stand ahead of it.
        self._firsts = [[x != y and is_behind(wanteds[0].setup, plan, self.plans[x]) for x in range(len(wanteds))]
                        for y, plan in enumerate(self.plans)]

    def ahead(self, x, y):
        """Whether body x must stand ahead of body y."""
        return self._firsts[y][x]

    def order(self):
        """The least list of all bodies in which each stands behind all that must stand ahead of it."""
        left = list(range(len(self.wanteds)))
        found = []
        while left:
            free = [y for y in left if not self._first_of(left, y)]
            if not free:
                raise Ring(self._ring(left))
            found.append(free[0])
            left.remove(free[0])
        return found

    def code(self, order):
        """The rows that print the bodies in an order of all of them."""
        if not is_arrangement(order, len(self.wanteds)):
            raise NotOrder()
        setup = self.wanteds[0].setup
        stands, spot, tip = new_bed(setup), ((0, 1), (0, 1)), setup.heights[-1]
        rows = []
        for body in order:
            for job in self.plans[body].jobs:
                strokes = row_strokes(job.places, setup.foot[0], setup.foot[1])
                rows.extend(job_rows(setup, stands, spot, tip, job, strokes, False))
                spot, tip = strokes[-1][2:], setup.heights[job.layer]
                stands = with_job(stands, job)
        return rows

    def __len__(self):
        return len(self.wanteds)

    def _first_of(self, left, y):
        """The list of the least of some bodies that must stand ahead of body y; empty if there is none."""
        return [x for x in left if self._firsts[y][x]][:1]

    def _ring(self, left):
        """Bodies of which each must stand behind the next one, and the last behind the first."""
        found = []
        here = left[0]
        while here not in found:
            found.append(here)
            here = self._first_of(left, here)[0]
        return found[found.index(here):]


def is_arrangement(value, many):
    """Whether any value is a list or tuple of all indexes below a number, each once."""
    if not isinstance(value, (list, tuple)) or not all([is_whole(item) for item in value]):
        return False
    return sorted(value) == list(range(many))
