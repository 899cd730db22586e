"""Reports: a line for each layer, and what is lost."""

from mostlaid.greatest import greatest, lost
from mostlaid.jobs import Plan
from mostlaid.measures import size
from mostlaid.ratios import number_text, plus
from mostlaid.setups import checked_standing


def size_text(p):
    """The text of the size of a patch."""
    return number_text(size(p))


def report(wanted, standing=None):
    """The text with a line for each layer, and the line of what is lost."""
    begun = checked_standing(wanted.setup, standing)
    best = greatest(wanted, begun)
    layers = [job.layer for job in Plan(wanted, begun).jobs]
    lines = []
    for at, part in enumerate(wanted.slices):
        sizes = f"slice {size_text(part)} stands {size_text(begun[at])} body {size_text(best.body[at])}"
        lines.append(f"layer {at + 1} {sizes} jobs {layers.count(at + 1)}\n")
    total = (0, 1)
    for patch in lost(wanted, begun):
        total = plus(total, size(patch))
    lines.append(f"lost {number_text(total)}\n")
    return "".join(lines)
