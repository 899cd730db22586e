import unittest

from mostlaid.errors import BadLayers
from mostlaid.greatest import greatest, lost
from mostlaid.jobs import Plan
from mostlaid.measures import size
from mostlaid.reports import report
from mostlaid.rings import of_rings
from mostlaid.setups import checked_standing

from tests.bodies import BEAM_RASTER, EMPTY, HALF, LEFT, POSTS, WRONG_STANDINGS, one_layer, two_layers
from tests.cases import RefusalCase
from tests.reference import fraction
from tests.slow import random_case, rng_of


class ReportTest(RefusalCase):
    def test_the_triangle(self):
        wanted = one_layer(of_rings([[(0, 0), (6, 0), (0, 6)]]))
        self.assertEqual(report(wanted), "layer 1 slice 18 stands 0 body 17 jobs 1\nlost 0\n")
        self.assertEqual(report(wanted=wanted, standing=greatest(wanted).body),
                         "layer 1 slice 18 stands 17 body 17 jobs 0\nlost 0\n")

    def test_posts(self):
        wanted = two_layers(POSTS, POSTS, carriage=(2, HALF), gap=HALF)
        self.assertEqual(report(wanted), "layer 1 slice 2 stands 0 body 2 jobs 2\n"
                                         "layer 2 slice 2 stands 0 body 2 jobs 2\nlost 0\n")
        self.assertEqual(report(wanted, [LEFT, LEFT]), "layer 1 slice 2 stands 1 body 1 jobs 0\n"
                                                       "layer 2 slice 2 stands 1 body 1 jobs 0\nlost 2\n")

    def test_props_are_jobs(self):
        beam = of_rings([[(0, 0), (4, 0), (4, 1), (0, 1)]])
        self.assertEqual(report(two_layers(LEFT, beam, raster=BEAM_RASTER)),
                         "layer 1 slice 1 stands 0 body 1 jobs 4\nlayer 2 slice 4 stands 0 body 4 jobs 1\nlost 0\n")

    def test_fractions(self):
        wedge = of_rings([[(0, 0), (2, 0), (0, (3, 2))]])
        stuff = of_rings([[(5, 5), ((16, 3), 5), (5, 6)]])
        self.assertEqual(report(two_layers(wedge, EMPTY), [stuff, EMPTY]),
                         "layer 1 slice 3/2 stands 1/6 body 1/6 jobs 0\nlayer 2 slice 0 stands 0 body 0 jobs 0\nlost 0\n")

    def test_wrong_standings(self):
        for standing, layer in WRONG_STANDINGS:
            self.refuses(BadLayers, lambda: report(two_layers(POSTS, POSTS), standing), layer)

    def test_by_the_words(self):
        for seed in range(30):
            wanted, standing = random_case(rng_of("report", seed))
            begun = checked_standing(wanted.setup, standing)
            plan, body = Plan(wanted, standing), greatest(wanted, standing).body
            lines = [f"layer {k + 1} slice {words(size(part))} stands {words(size(begun[k]))} body {words(size(body[k]))} "
                     f"jobs {len([job for job in plan.jobs if job.layer == k + 1])}\n"
                     for k, part in enumerate(wanted.slices)]
            total = sum(fraction(size(patch)) for patch in lost(wanted, standing))
            self.assertEqual(report(wanted, standing), "".join(lines) + f"lost {total}\n")


def words(a):
    return str(fraction(a))


if __name__ == "__main__":
    unittest.main()
