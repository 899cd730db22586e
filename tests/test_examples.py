"""The examples of the document that have landed."""

import unittest

from mostlaid.feet import drawn_in
from mostlaid.greatest import greatest
from mostlaid.makers import loft
from mostlaid.measures import size
from mostlaid.nets import volume
from mostlaid.patches import rectangle
from mostlaid.props import props
from mostlaid.rings import of_rings
from mostlaid.setups import Setup, Wanted
from mostlaid.slabs import ALL, SURE, slab
from mostlaid.slices import slice_above


class ExamplesTest(unittest.TestCase):
    def test_a_foot_in_a_bar(self):
        p = drawn_in(rectangle(0, 0, 4, 1), (1, 2), (1, 2))
        self.assertEqual([p.levels, p.rows, p.bands], [((1, 2),), ((((1, 2), (7, 2)),),), ()])

    def test_slices_and_the_volume_of_a_pyramid(self):
        net = loft([(0, 0), (4, 0), (4, 4), (0, 4)], 0, [(2, 2), (2, 2), (2, 2), (2, 2)], 4)
        self.assertEqual([size(slice_above(net, 0)), size(slice_above(net, 1)), size(slice_above(net, 4)), volume(net)],
                         [(16, 1), (9, 1), (0, 1), (64, 3)])
        self.assertEqual([size(slice_above(net, 2)), size(slice_above(net, 3))], [(4, 1), (1, 1)])
        self.assertEqual([size(slab(net, 0, 1, mode=SURE)), size(slab(net, 0, 1, mode=ALL))], [(9, 1), (16, 1)])

    def test_the_size_of_the_body_in_a_triangle(self):
        wanted = Wanted(Setup([0, 1], (0, 0, 10, 10)), [of_rings([[(0, 0), (6, 0), (0, 6)]])])
        self.assertEqual(size(greatest(wanted).body[0]), (17, 1))

    def test_props_below_a_beam(self):
        raster = [((1, 2), (1, 2)), ((3, 2), (1, 2)), ((5, 2), (1, 2)), ((7, 2), (1, 2))]
        post, beam = rectangle(0, 0, 1, 1), rectangle(0, 0, 4, 1)
        wanted = Wanted(Setup([0, 1, 2], (0, 0, 9, 9), reach=(1, 1), raster=raster), [post, beam])
        without = Wanted(Setup([0, 1, 2], (0, 0, 9, 9), raster=raster), [post, beam])
        self.assertEqual([props(wanted), len(props(without)[0])], [((((7, 2), (1, 2)),), ()), 3])


if __name__ == "__main__":
    unittest.main()
