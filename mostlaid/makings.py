"""Makings: code that lays the greatest body, job by job."""

from mostlaid.coderows import GO, HIGH, LAY
from mostlaid.errors import AllDone, BadChooser, BadFilling, NotReady
from mostlaid.fillings import is_filling, strokes_of, sweep
from mostlaid.jobs import Plan
from mostlaid.machines import distance
from mostlaid.ratios import below, greatest_of, is_whole, minus, pair
from mostlaid.rims import way
from mostlaid.sets import insides_meet, joined
from mostlaid.setups import Wanted, checked_standing, new_bed, pairs

LAYERS = "layers"
TOWERS = "towers"
NEAR = "near"
MOST_CHOICE = 99


def highest_met(setup, stands, stroke, halves, gap, low):
    """The greatest height above low of what a sweep meets in some layer, less a gap; low if there is none."""
    found = low
    for upper, stuff in zip(setup.heights[1:], stands):
        height = minus(upper, gap)
        if stuff and below(found, height) and insides_meet(sweep(stroke, halves[0], halves[1]), stuff):
            found = height
    return found


def hop(setup, stands, spot, tip, goal, height):
    """The rows of a hop over what stands, from a place and tip to a goal and its tip."""
    if spot == goal and tip == height:
        return []
    top = greatest_of([tip, height])
    top = highest_met(setup, stands, spot + goal, setup.foot, (0, 1), top)
    top = highest_met(setup, stands, spot + goal, setup.carriage, setup.gap, top)
    rows = []
    if top != tip:
        rows.append((HIGH, top))
    if goal != spot:
        rows.append((GO, goal[0], goal[1]))
    if height != top:
        rows.append((HIGH, height))
    return rows


def hop_rows(setup, standing, place, tip, goal, height):
    """The rows of a hop over a standing to a place at a tip height."""
    stands = checked_standing(setup, standing)
    return hop(setup, stands, pairs(place), pair(tip), pairs(goal), pair(height))


def walk_rows(places, spot, goal):
    """The rows of a walk within the places of a job."""
    return [(GO, x, y) for x, y in way(places, spot, goal)[1:]]


def job_rows(setup, stands, spot, tip, job, strokes, walk):
    """The rows that lay a job by strokes, from a place and tip, where all else that is to be hopped over stands."""
    height = setup.heights[job.layer]
    rows = []
    for at, (x0, y0, x1, y1) in enumerate(strokes):
        # What the strokes of this job have laid reaches up to the tip at most, so it is in nobody's way.
        if walk and at > 0:
            rows.extend(walk_rows(job.places, spot, (x0, y0)))
        else:
            rows.extend(hop(setup, stands, spot, tip, (x0, y0), height))
        rows.append((LAY, x1, y1))
        spot, tip = (x1, y1), height
    return rows


def with_job(stands, job):
    """What stands when a job is done, too."""
    found = list(stands)
    found[job.layer - 1] = joined(found[job.layer - 1], job.stuff)
    return tuple(found)


def is_chooser(value):
    """Whether any value is a chooser."""
    if isinstance(value, (list, tuple)):
        return all([is_whole(item) and 0 <= item <= MOST_CHOICE for item in value])
    return value in (LAYERS, TOWERS, NEAR)


class Making:
    """The work on the jobs of a plan: which are done, and where the foot is."""

    def __init__(self, wanted, *, standing=None, chooser="layers", filling="rows", place=(0, 0), tip=None, walk=False):
        begun = checked_standing(wanted.setup, standing)
        if not is_chooser(chooser):
            raise BadChooser(chooser)
        if not is_filling(filling):
            raise BadFilling(filling)
        self.plan = Plan(wanted, begun)
        self._chooser = tuple(chooser) if isinstance(chooser, list) else chooser
        self._filling = filling
        self._walk = walk
        self._spot = pairs(place)
        self._height = wanted.setup.heights[-1] if tip is None else pair(tip)
        self._stands = begun
        self._laid = []
        self._strokes = {}

    @property
    def place(self):
        """The place of the foot."""
        return self._spot

    @property
    def tip(self):
        """The height of the tip."""
        return self._height

    @property
    def standing(self):
        """What stands now."""
        return self._stands

    @property
    def done(self):
        """The numbers of the done jobs, in the sequence in which they were laid."""
        return list(self._laid)

    def ready(self):
        """The ready jobs, ascending."""
        return self.plan.ready(self._laid)

    def choice(self):
        """The number of the job that the chooser takes, or None if no job is left."""
        numbers = self.ready()
        if not numbers:
            return None
        if isinstance(self._chooser, tuple) and self._chooser:
            index = self._chooser[len(self._laid) % len(self._chooser)]
            return numbers[index % len(numbers)]
        if self._chooser == TOWERS:
            highest = max([self.plan.jobs[number].layer for number in numbers])
            return [number for number in numbers if self.plan.jobs[number].layer == highest][0]
        if self._chooser == NEAR:
            return self._nearest(numbers)
        # Jobs are numbered by layers.
        return numbers[0]

    def lay(self, number=None):
        """Lays a ready job, by default the one that the chooser takes; the list of its rows."""
        numbers = self.ready()
        if not numbers:
            raise AllDone()
        if number is not None and (not is_whole(number) or number not in numbers):
            raise NotReady(number)
        job = self.plan.jobs[self.choice() if number is None else number]
        strokes = self._strokes_of(job.number)
        setup = self.plan.wanted.setup
        rows = job_rows(setup, self._stands, self._spot, self._height, job, strokes, self._walk)
        self._spot = strokes[-1][2:]
        self._height = setup.heights[job.layer]
        self._stands = with_job(self._stands, job)
        self._laid.append(job.number)
        return rows

    def steps(self):
        """Lays all jobs that are left, one for each item, which is the list of its rows."""
        while self.ready():
            yield self.lay()

    def code(self):
        """The rows of all jobs that are left, as the chooser takes them."""
        other = self.twin()
        rows = []
        while other.ready():
            rows.extend(other.lay())
        return rows

    def twin(self):
        """An independent making in the same state."""
        setup = self.plan.wanted.setup
        # The plan is taken over, so none is worked out but one for an empty wanted body.
        other = Making(Wanted(setup, new_bed(setup)), chooser=self._chooser, filling=self._filling,
                       place=self._spot, tip=self._height, walk=self._walk)
        other.plan = self.plan
        other._stands = self._stands
        other._laid = list(self._laid)
        other._strokes = dict(self._strokes)
        return other

    def __repr__(self):
        return f"Making({len(self._laid)} of {len(self.plan.jobs)})"

    def _strokes_of(self, number):
        """The strokes of a job, which are made once."""
        if number not in self._strokes:
            h, v = self.plan.wanted.setup.foot
            self._strokes[number] = strokes_of(self.plan.jobs[number].places, h, v, self._filling)
        return self._strokes[number]

    def _nearest(self, numbers):
        """The first of some jobs whose strokes begin nearest to the place of the foot."""
        best, least = numbers[0], None
        for number in numbers:
            x0, y0, _, _ = self._strokes_of(number)[0]
            far = greatest_of([distance(self._spot[0], x0), distance(self._spot[1], y0)])
            if least is None or below(far, least):
                best, least = number, far
        return best


def house_code(wanted, *, standing=None, chooser="layers", filling="rows", place=(0, 0), tip=None, walk=False):
    """The rows of a new making for all its jobs."""
    making = Making(wanted, standing=standing, chooser=chooser, filling=filling, place=place, tip=tip, walk=walk)
    return making.code()
