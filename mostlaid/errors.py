"""The errors: what is refused, and with what."""


class Refused(ValueError):
    """The base of all errors of this package; it is not raised itself."""


class BadNumber(Refused):
    """A value is no number, or a divisor is 0."""

    def __init__(self, value):
        Refused.__init__(self, "not a number that can stand here")
        self.value = value


class BadRule(Refused):
    """A rule is none of the rules for winding numbers."""

    def __init__(self, rule):
        Refused.__init__(self, "not a rule for winding numbers")
        self.rule = rule


class BadMode(Refused):
    """A mode is none of the modes of a slab."""

    def __init__(self, mode):
        Refused.__init__(self, "not a mode of a slab")
        self.mode = mode


class BadPoint(Refused):
    """A point does not belong to the patch."""

    def __init__(self, point):
        Refused.__init__(self, "not a point of the patch")
        self.point = point


class BadNet(Refused):
    """An item of a net is no corner or no face."""

    def __init__(self, word, index):
        Refused.__init__(self, "a corner or a face of the net is wrong")
        self.word = word
        self.index = index


class BadLoft(Refused):
    """Two lists of points cannot be joined by a loft."""

    def __init__(self):
        Refused.__init__(self, "no loft can be made of this")


class NotClosed(Refused):
    """A net has open edges."""

    def __init__(self, edges):
        Refused.__init__(self, "the net has open edges")
        self.edges = edges


class NotTwo(Refused):
    """An edge has one face alone, or more than two."""

    def __init__(self, edge):
        Refused.__init__(self, "an edge does not have two faces")
        self.edge = edge


class Twisted(Refused):
    """Faces cannot all be turned to one side."""

    def __init__(self, faces):
        Refused.__init__(self, "the faces form a twisted band")
        self.faces = faces


class Singular(Refused):
    """A table has the determinant 0."""

    def __init__(self):
        Refused.__init__(self, "the determinant is 0")


class BadHeights(Refused):
    """Two heights do not ascend."""

    def __init__(self):
        Refused.__init__(self, "the heights do not ascend")


class BadSetup(Refused):
    """An argument of a setup is wrong."""

    def __init__(self, word):
        Refused.__init__(self, "an argument of the setup is wrong")
        self.word = word


class BadLayers(Refused):
    """A list with a full patch for each layer is wrong."""

    def __init__(self, layer):
        Refused.__init__(self, "not a full patch for each layer")
        self.layer = layer


class NoPoint(Refused):
    """A point is not inside the slice of a layer."""

    def __init__(self, layer, point):
        Refused.__init__(self, "not a point inside the slice of a layer")
        self.layer = layer
        self.point = point


class Laid(Refused):
    """A point belongs to the body."""

    def __init__(self, layer, point):
        Refused.__init__(self, "the point belongs to the body")
        self.layer = layer
        self.point = point


class NoProp(Refused):
    """A place is no prop of a layer."""

    def __init__(self, layer, point):
        Refused.__init__(self, "not a prop of the layer")
        self.layer = layer
        self.point = point


class BadFilling(Refused):
    """A filling is unknown."""

    def __init__(self, filling):
        Refused.__init__(self, "not a filling")
        self.filling = filling


class BadChooser(Refused):
    """A chooser is unknown."""

    def __init__(self, chooser):
        Refused.__init__(self, "not a chooser")
        self.chooser = chooser


class UnknownJob(Refused):
    """A value is no number of a job."""

    def __init__(self, number):
        Refused.__init__(self, "not the number of a job")
        self.number = number


class NotReady(Refused):
    """A value is no number of a ready job."""

    def __init__(self, number):
        Refused.__init__(self, "not the number of a ready job")
        self.number = number


class AllDone(Refused):
    """No job is left."""

    def __init__(self):
        Refused.__init__(self, "no job is left")


class BadIndex(Refused):
    """A value is no index of an order."""

    def __init__(self, index):
        Refused.__init__(self, "not the index of an order")
        self.index = index


class NotOrder(Refused):
    """A value is no order."""

    def __init__(self):
        Refused.__init__(self, "not an order")


class Ring(Refused):
    """Bodies must each stand ahead of the next one, in a ring."""

    def __init__(self, bodies):
        Refused.__init__(self, "each of these bodies must stand ahead of the next")
        self.bodies = bodies


class BadRow(Refused):
    """A value is no row of code."""

    def __init__(self, row):
        Refused.__init__(self, "not a row of code")
        self.row = row


class NoLayer(Refused):
    """The tip is at the upper height of no layer."""

    def __init__(self, height):
        Refused.__init__(self, "the tip is at the height of no layer")
        self.height = height


class Touch(Refused):
    """A part of the printer would touch what stands."""

    def __init__(self, part, layer):
        Refused.__init__(self, "a part of the printer would touch what stands")
        self.part = part
        self.layer = layer


class Hangs(Refused):
    """What would be laid does not rest on what stands."""

    def __init__(self, point):
        Refused.__init__(self, "this would hang")
        self.point = point


class Outside(Refused):
    """What would be laid is not within the slice."""

    def __init__(self, point):
        Refused.__init__(self, "this would be laid outside the slice")
        self.point = point


class Loses(Refused):
    """What would be laid would make the kept body less."""

    def __init__(self, layer):
        Refused.__init__(self, "the kept body would become less")
        self.layer = layer


class BadText(Refused):
    """A line of a text is wrong."""

    def __init__(self, line, why):
        Refused.__init__(self, "a line of the text is wrong")
        self.line = line
        self.why = why
