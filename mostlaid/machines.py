"""What both machines have in common: how a row of code is looked at and done, and how code is run.

A machine keeps what stands in a pile. A pile never changes; it has these methods:
meets(layer, swept): whether a point is both inside a sweep and inside what stands in a layer;
hanging(layer, swept): what of a sweep in a layer rests on nothing;
with_sweep(layer, swept): the pile in which the sweep stands, too;
and the attribute patches, the tuple of what stands in each layer.
"""

from mostlaid.coderows import HIGH, LAY, is_row, shortened
from mostlaid.errors import BadRow, BadSetup, Hangs, Loses, NoLayer, Outside, Touch
from mostlaid.fillings import sweep
from mostlaid.greatest import greatest, greatest_behind, lost_layer
from mostlaid.measures import first_point, size
from mostlaid.patches import rectangle
from mostlaid.props import borne_by
from mostlaid.ratios import below, greatest_of, minus, pair, plus, times
from mostlaid.sets import insides_meet, less


class Terms:
    """What a machine works with and never changes: its setup, and the wanted body that it keeps to."""

    def __init__(self, setup, wanted, careful):
        if careful is True and wanted is None:
            raise BadSetup("careful")
        self.setup = setup
        self.wanted = wanted
        self.careful = careful is True


class State:
    """Where a machine is, what it has spent, and what stands; it never changes."""

    def __init__(self, spot, height, time, spent, pile, best):
        self.spot = spot
        self.height = height
        self.time = time
        self.spent = spent
        self.pile = pile
        # The greatest body from what stands; None for a machine that does not care for it.
        self.best = best


def begun_grounds(setup, begun):
    """For each layer what may be rested on before anything is laid."""
    x0, y0, x1, y1 = setup.bed
    return (rectangle(x0, y0, x1, y1),) + tuple([borne_by(setup, stuff) for stuff in begun[:-1]])


def begun_state(terms, pile):
    """The state of a new machine."""
    best = greatest(terms.wanted, pile.patches) if terms.careful else None
    return State(((0, 1), (0, 1)), terms.setup.heights[-1], (0, 1), (0, 1), pile, best)


def touched(setup, pile, stroke, tip):
    """The part that touches first when the foot moves along a stroke, and the lowest layer; None if none does."""
    for part, halves, low in (("foot", setup.foot, tip), ("carriage", setup.carriage, plus(tip, setup.gap))):
        for layer in range(1, setup.layers + 1):
            if below(low, setup.heights[layer]) and pile.meets(layer, sweep(stroke, halves[0], halves[1])):
                return part, layer
    return None


def check_touch(setup, pile, stroke, tip):
    """Refuses a move that touches."""
    found = touched(setup, pile, stroke, tip)
    if found is not None:
        raise Touch(found[0], found[1])


def distance(a, b):
    """The absolute difference of two numbers."""
    return minus(b, a) if below(a, b) else minus(a, b)


def moved_to(state, spot, height):
    """The state behind a move, with the time that it takes."""
    ways = [distance(state.spot[0], spot[0]), distance(state.spot[1], spot[1]), distance(state.height, height)]
    return State(spot, height, plus(state.time, greatest_of(ways)), state.spent, state.pile, state.best)


def is_prop(terms, stroke, part, swept):
    """Whether a stroke with this sweep is a prop beside a slice."""
    spot = stroke[:2]
    return spot == stroke[2:] and spot in terms.setup.raster and not insides_meet(swept, part)


def check_lay(terms, pile, layer, stroke, swept):
    """Refuses a sweep in a layer that hangs, or is outside the slice."""
    hanging = pile.hanging(layer, swept)
    if hanging:
        raise Hangs(first_point(hanging))
    if terms.wanted is None:
        return
    part = terms.wanted.slices[layer - 1]
    beyond = less(swept, part)
    if beyond and not is_prop(terms, stroke, part, swept):
        raise Outside(first_point(beyond))


def laid_state(terms, state, layer, swept):
    """The state in which a sweep stands in a layer, too."""
    added = less(swept, state.pile.patches[layer - 1])
    if not added:
        return state
    pile = state.pile.with_sweep(layer, swept)
    best = None
    if terms.careful:
        best = greatest_behind(terms.wanted, state.best, pile.patches, layer, swept)
        lost = lost_layer(terms.wanted, state.best, best)
        if lost is not None:
            raise Loses(lost)
    thickness = minus(terms.setup.heights[layer], terms.setup.heights[layer - 1])
    spent = plus(state.spent, times(thickness, size(added)))
    return State(state.spot, state.height, state.time, spent, pile, best)


def state_behind(terms, state, row):
    """The state behind a row of code, which may be any value; a row that is refused raises its error."""
    setup = terms.setup
    if not is_row(setup, row):
        raise BadRow(row)
    if row[0] == HIGH:
        height = pair(row[1])
        low = height if below(height, state.height) else state.height
        check_touch(setup, state.pile, state.spot + state.spot, low)
        return moved_to(state, state.spot, height)
    spot = (pair(row[1]), pair(row[2]))
    stroke = state.spot + spot
    layer = setup.layer_at(state.height)
    if row[0] == LAY and layer is None:
        raise NoLayer(state.height)
    check_touch(setup, state.pile, stroke, state.height)
    behind = moved_to(state, spot, state.height)
    if row[0] != LAY:
        return behind
    swept = sweep(stroke, setup.foot[0], setup.foot[1])
    check_lay(terms, state.pile, layer, stroke, swept)
    return laid_state(terms, behind, layer, swept)


def refusal(machine, row):
    """The name of the error with which a machine refuses a row, or None if it does the row."""
    try:
        machine.do(row)
    except BadRow:
        return "BadRow"
    except NoLayer:
        return "NoLayer"
    except Touch:
        return "Touch"
    except Hangs:
        return "Hangs"
    except Outside:
        return "Outside"
    except Loses:
        return "Loses"
    return None


def last_refusal(machine, setup, row, share):
    """As refusal, for the row in which a run is cut."""
    if not is_row(setup, row):
        return refusal(machine, row)
    if row[0] == HIGH:
        return None
    return refusal(machine, shortened(row, machine.place, share))


def run_code(machine, setup, code, cut, skip):
    """Lets a machine run code; the list of the refused rows, as tuples of their index and the name of the error."""
    found = []
    for index, row in enumerate(code):
        is_last = cut is not None and index == cut[0]
        name = last_refusal(machine, setup, row, cut[1]) if is_last else refusal(machine, row)
        if name is not None:
            found.append((index, name))
        if is_last or (name is not None and not skip):
            break
    if cut is not None:
        machine.do((HIGH, setup.heights[-1]))
    return found
