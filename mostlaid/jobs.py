"""Jobs: the islands and props of a plan, which of them hit others, and the orders in which they can be done."""

from mostlaid.errors import BadIndex, NotOrder, UnknownJob
from mostlaid.feet import grown
from mostlaid.patches import dot, rectangle
from mostlaid.props import Supports, borne_by, stuff_at
from mostlaid.ratios import below, is_whole, plus
from mostlaid.sets import common, insides_meet, joined, less, within
from mostlaid.setups import checked_standing

ISLAND = "island"
PROP = "prop"


class Job:
    """An island or a prop: the places of the foot, what is laid from there, and what the carriage covers there."""

    def __init__(self, setup, number, layer, kind, places):
        self.number = number
        self.layer = layer
        self.kind = kind
        self.places = places
        self.stuff = stuff_at(setup, places)
        self.shade = grown(places, setup.carriage[0], setup.carriage[1])


def jobs_of(wanted, begun):
    """The jobs by layers, in each layer first the islands and then the props."""
    supports = Supports(wanted, begun)
    found = []
    for at, listed in enumerate(supports.listed):
        for places in listed:
            found.append(Job(wanted.setup, len(found), at + 1, ISLAND, places))
        for point in supports.chosen[at]:
            found.append(Job(wanted.setup, len(found), at + 1, PROP, dot(point[0], point[1])))
    return tuple(found)


def job_hits(setup, one, other):
    """Whether what one job lays would bar places of another one."""
    low, high = setup.heights[other.layer], setup.heights[one.layer]
    # Grown by the foot, the places of a job are its stuff.
    if below(low, high) and insides_meet(one.stuff, other.stuff):
        return True
    return below(plus(low, setup.gap), high) and insides_meet(one.stuff, other.shade)


def bit(number):
    """The mask of a single job."""
    return 1 << number


def mask_of(numbers):
    """The mask of some different jobs: an integer with one bit for each of them."""
    return sum([bit(number) for number in numbers])


def rest_of(setup, begun, job):
    """What of the stuff of a job hangs when nothing else is done."""
    if job.layer == 1:
        x0, y0, x1, y1 = setup.bed
        return less(job.stuff, rectangle(x0, y0, x1, y1))
    return less(job.stuff, borne_by(setup, begun[job.layer - 2]))


def bearers_of(setup, jobs, job, hanging):
    """The jobs that can bear something of a patch that hangs: a dict of what they bear, by their numbers."""
    found = {}
    for other in jobs:
        if hanging and other.layer + 1 == job.layer:
            bearing = borne_by(setup, other.stuff)
            if common(hanging, bearing):
                found[other.number] = bearing
    return found


class Plan:
    """The jobs that are left from what stands, and their orders."""

    def __init__(self, wanted, standing=None):
        self.begun = checked_standing(wanted.setup, standing)
        self.wanted = wanted
        self.jobs = jobs_of(wanted, self.begun)
        setup = wanted.setup
        self._hit_masks = [mask_of([other.number for other in self.jobs if job_hits(setup, one, other)])
                           for one in self.jobs]
        self._hanging = [rest_of(setup, self.begun, job) for job in self.jobs]
        self._bearers = [bearers_of(setup, self.jobs, job, self._hanging[job.number]) for job in self.jobs]
        # What has been found out once is kept by masks of done jobs, since the same ones come up again and again.
        self._borne = [{} for _ in self.jobs]
        self._counts = {}

    def hits(self, one, other):
        """Whether job number other is hit by job number one."""
        self._check(one)
        self._check(other)
        return (self._hit_masks[one] & bit(other)) != 0

    def stands(self, done):
        """The standing that done jobs make."""
        pieces = [[stuff] for stuff in self.begun]
        for number in done:
            job = self.jobs[number]
            pieces[job.layer - 1].append(job.stuff)
        return tuple([joined(*listed) for listed in pieces])

    def why_not(self, number, done):
        """None if a job is ready when others are done, otherwise the first reason why it is not."""
        self._check(number)
        mask = mask_of(done)
        if mask & bit(number):
            return ("done",)
        if not self._is_borne(number, mask):
            return ("hangs",)
        left = self._hit_masks[number] & ~mask
        if left:
            return ("hits", min([job.number for job in self.jobs if left & bit(job.number)]))
        return None

    def ready(self, done):
        """The ready jobs, ascending."""
        return self._free(mask_of(done))

    def can_come(self, done):
        """Whether jobs can be put in an order in which each is ready when those ahead of it are done."""
        return self._can_come(mask_of(done))

    def is_order(self, numbers):
        """Whether any value is a list or tuple of all jobs in such an order."""
        if not isinstance(numbers, (list, tuple)) or len(numbers) != len(self.jobs):
            return False
        mask = 0
        for number in numbers:
            if not self._is_number(number) or not self._is_free(number, mask):
                return False
            mask = mask | bit(number)
        return True

    def count_orders(self):
        """The number of orders."""
        return self._ways(0)

    def order_at(self, index):
        """The order with an index in the ascending list of all orders."""
        if not is_whole(index) or not 0 <= index < self._ways(0):
            raise BadIndex(index)
        found = []
        mask, left = 0, index
        while len(found) < len(self.jobs):
            for number in self._free(mask):
                many = self._ways(mask | bit(number))
                if left < many:
                    found.append(number)
                    break
                left = left - many
            mask = mask_of(found)
        return found

    def rank_of(self, order):
        """The index of an order."""
        if not self.is_order(order):
            raise NotOrder()
        mask, rank = 0, 0
        for number in order:
            rank = rank + sum([self._ways(mask | bit(other)) for other in self._free(mask) if other < number])
            mask = mask | bit(number)
        return rank

    def least_lot(self, number):
        """The jobs that are left when each is struck, from the greatest on, without which a job can come."""
        self._check(number)
        mask = mask_of([job.number for job in self.jobs])
        for other in range(len(self.jobs) - 1, -1, -1):
            if other != number and self._can_come(mask & ~bit(other)):
                mask = mask & ~bit(other)
        return [job.number for job in self.jobs if mask & bit(job.number)]

    def _is_number(self, value):
        """Whether any value is the number of a job."""
        return is_whole(value) and 0 <= value < len(self.jobs)

    def _check(self, value):
        """Refuses a value that is no number of a job."""
        if not self._is_number(value):
            raise UnknownJob(value)

    def _is_borne(self, number, mask):
        """Whether nothing of a job would hang when the jobs of a mask are done."""
        bearers = self._bearers[number]
        done = tuple([other for other in bearers if mask & bit(other)])
        known = self._borne[number]
        if done not in known:
            bearing = [bearers[other] for other in done]
            known[done] = within(self._hanging[number], joined(*bearing))
        return known[done]

    def _is_free(self, number, mask):
        """Whether a job is ready when the jobs of a mask are done."""
        return not mask & bit(number) and not self._hit_masks[number] & ~mask and self._is_borne(number, mask)

    def _free(self, mask):
        """The jobs that are ready when the jobs of a mask are done, ascending."""
        return [number for number in range(len(self.jobs)) if self._is_free(number, mask)]

    def _can_come(self, mask):
        """Whether the jobs of a mask can come."""
        done = 0
        # A ready job stays ready, so the jobs may be taken as they come.
        while done != mask:
            more = [number for number in self._free(done) if mask & bit(number)]
            if not more:
                return False
            done = done | mask_of(more)
        return True

    def _ways(self, mask):
        """The number of ways to do all other jobs behind those of a mask."""
        if mask not in self._counts:
            more = [self._ways(mask | bit(number)) for number in self._free(mask)]
            self._counts[mask] = sum(more) if more else 1
        return self._counts[mask]
