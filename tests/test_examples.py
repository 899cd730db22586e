"""The examples of the document."""

import unittest

from mostlaid.errors import Hangs
from mostlaid.feet import drawn_in
from mostlaid.greatest import greatest
from mostlaid.makers import loft
from mostlaid.makings import house_code
from mostlaid.measures import size
from mostlaid.nets import volume
from mostlaid.papers import Paper, certificate, flaw
from mostlaid.patches import rectangle
from mostlaid.printers import Printer
from mostlaid.props import props
from mostlaid.rings import of_rings
from mostlaid.setups import Setup, Wanted
from mostlaid.slabs import ALL, SURE, slab
from mostlaid.slices import slice_above


class ExamplesTest(unittest.TestCase):
    def test_a_foot_in_a_bar(self):
        p = drawn_in(rectangle(0, 0, 4, 1), (1, 2), (1, 2))
        self.assertEqual([p.levels, p.rows, p.bands], [((1, 2),), ((((1, 2), (7, 2)),),), ()])

    def test_slices_and_the_volume_of_a_pyramid(self):
        net = loft([(0, 0), (4, 0), (4, 4), (0, 4)], 0, [(2, 2), (2, 2), (2, 2), (2, 2)], 4)
        self.assertEqual([size(slice_above(net, 0)), size(slice_above(net, 1)), size(slice_above(net, 4)), volume(net)],
                         [(16, 1), (9, 1), (0, 1), (64, 3)])
        self.assertEqual([size(slice_above(net, 2)), size(slice_above(net, 3))], [(4, 1), (1, 1)])
        self.assertEqual([size(slab(net, 0, 1, mode=SURE)), size(slab(net, 0, 1, mode=ALL))], [(9, 1), (16, 1)])

    def test_a_certificate_in_a_triangle(self):
        wanted = Wanted(Setup([0, 1], (0, 0, 10, 10)), [of_rings([[(0, 0), (6, 0), (0, 6)]])])
        point = ((11, 2), (1, 4))
        paper = certificate(wanted, 1, point)
        self.assertEqual(
            [size(greatest(wanted).body[0]), len(paper), paper.pieces[0], flaw(wanted, paper),
             flaw(wanted, Paper(1, point, paper.pieces[1:]))],
            [(17, 1), 2, ("slice", 0, (-3, 4), (0, 1), ((9, 2), (13, 2), (9, 2), (13, 2))), None, ("free", (5, 1), (-1, 4))])
        self.assertEqual(paper.pieces[1], ("slice", 0, (0, 1), (5, 4), ((6, 1), (13, 2), (19, 4), (13, 2))))

    def test_code_for_a_bar(self):
        self.assertEqual(house_code(Wanted(Setup([0, 1], (0, 0, 10, 10)), [rectangle(0, 0, 4, 1)])),
                         [("go", (1, 2), (1, 2)), ("lay", (7, 2), (1, 2))])

    def test_a_lay_beside_the_bed(self):
        with self.assertRaises(Hangs) as held:
            Printer(Setup([0, 1], (0, 0, 10, 10))).do(("lay", 1, 1))
        self.assertEqual(held.exception.point, ((-1, 2), (-1, 2)))

    def test_props_below_a_beam(self):
        raster = [((1, 2), (1, 2)), ((3, 2), (1, 2)), ((5, 2), (1, 2)), ((7, 2), (1, 2))]
        post, beam = rectangle(0, 0, 1, 1), rectangle(0, 0, 4, 1)
        wanted = Wanted(Setup([0, 1, 2], (0, 0, 9, 9), reach=(1, 1), raster=raster), [post, beam])
        without = Wanted(Setup([0, 1, 2], (0, 0, 9, 9), raster=raster), [post, beam])
        self.assertEqual([props(wanted), len(props(without)[0])], [((((7, 2), (1, 2)),), ()), 3])


if __name__ == "__main__":
    unittest.main()
