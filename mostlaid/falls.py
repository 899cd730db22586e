"""Falls: where code makes the kept body less."""

from mostlaid.coderows import LAY
from mostlaid.fillings import sweep
from mostlaid.greatest import greatest, greatest_behind, lost_layer
from mostlaid.machines import refusal
from mostlaid.quick import QuickPrinter


def first_loss(wanted, code, *, standing=None):
    """The index of the first row behind which the kept body is less than ahead of it, or None."""
    setup = wanted.setup
    machine = QuickPrinter(setup, standing=standing)
    best = greatest(wanted, machine.standing)
    for index, row in enumerate(code):
        spot, stood = machine.place, machine.standing
        if refusal(machine, row) is not None:
            return None
        if row[0] == LAY and machine.standing != stood:
            swept = sweep(spot + machine.place, setup.foot[0], setup.foot[1])
            ahead = best
            best = greatest_behind(wanted, ahead, machine.standing, setup.layer_at(machine.tip), swept)
            if lost_layer(wanted, ahead, best) is not None:
                return index
    return None
