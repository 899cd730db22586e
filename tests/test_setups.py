import inspect
import unittest

from mostlaid.errors import BadLayers, BadSetup
from mostlaid.nets import Net
from mostlaid.patches import Patch, dot, rectangle, segment
from mostlaid.rings import hull
from mostlaid.sets import joined, less
from mostlaid.setups import Setup, Wanted, checked_standing, new_bed

from tests.reference import numbers

BED = (0, 0, 10, 10)
HALF = (1, 2)
NO_NUMBERS = (None, True, False, "", "1", "1/2", (1, 0), (2, 4), (1, -2), (True, 2), (1, True), (1,), (1, 2, 3), [1, 2],
              [], (), ((1, 2), 3))
NO_TUPLES = (None, True, 0, 7, "ab", "", (), [], [1, 1], [[1, 1]], (1,), (1, 1, 1), ((1, 1),), ("1", "1"), "11")
WORDS = ("heights", "bed", "foot", "carriage", "gap", "reach", "raster")
WRONG = {"heights": [1], "bed": (0, 0, 0, 0), "foot": (0, 1), "carriage": (0, 0), "gap": -1, "reach": (0, -1),
         "raster": [0]}


def made(**changed):
    """A setup with some arguments other than usual."""
    given = {"heights": [0, 1, 3], "bed": BED}
    given.update(changed)
    return Setup(**given)


class SetupTest(unittest.TestCase):
    def refuses(self, word, *values):
        for value in values:
            with self.assertRaises(BadSetup, msg=repr(value)) as held:
                made(**{word: value})
            self.assertEqual(held.exception.word, word)

    def accepts(self, word, *values):
        for value in values:
            made(**{word: value})

    def test_attributes(self):
        setup = Setup([0, HALF, (7, 3)], (-1, (1, 2), 20, 30), foot=(1, (3, 2)), carriage=((5, 2), 2), gap=(1, 3),
                      reach=(0, 2), raster=[(3, 1), (1, 2), ((1, 2), 1), (3, (1, 1)), (1, (-1, 3))])
        self.assertEqual(setup.heights, ((0, 1), (1, 2), (7, 3)))
        self.assertEqual(setup.bed, ((-1, 1), (1, 2), (20, 1), (30, 1)))
        self.assertEqual(setup.foot, ((1, 1), (3, 2)))
        self.assertEqual(setup.carriage, ((5, 2), (2, 1)))
        self.assertEqual(setup.gap, (1, 3))
        self.assertEqual(setup.reach, ((0, 1), (2, 1)))
        self.assertEqual(setup.raster, (((1, 1), (-1, 3)), ((1, 2), (1, 1)), ((3, 1), (1, 1)), ((1, 1), (2, 1))))
        self.assertEqual(setup.layers, 2)

    def test_what_stands_for_what_is_left_out(self):
        setup = Setup((0, 1), BED)
        self.assertEqual(setup.foot, (HALF, HALF))
        self.assertEqual(setup.carriage, (HALF, HALF))
        self.assertEqual((setup.gap, setup.reach, setup.raster), ((0, 1), ((0, 1), (0, 1)), ()))
        self.assertEqual(Setup([0, 1], BED, foot=(1, 2)).carriage, ((1, 1), (2, 1)))
        self.assertEqual(Setup([0, 1], BED, foot=(1, 2), carriage=None).carriage, ((1, 1), (2, 1)))

    def test_the_names_of_the_arguments(self):
        with self.assertRaises(TypeError):
            Setup([0, 1], BED, (HALF, HALF))
        self.assertEqual(Setup(bed=BED, heights=[0, 1]), Setup([0, 1], BED))
        keywords = [name for name, one in inspect.signature(Setup).parameters.items() if one.kind == one.KEYWORD_ONLY]
        self.assertEqual(keywords, ["foot", "carriage", "gap", "reach", "raster"])

    def test_wrong_heights(self):
        self.refuses("heights", None, True, 0, 7, "", "01", [], [0], (), (0,), [1, 2], [-1, 0], [0, 0], [0, 1, 1],
                     [0, 2, 1], [0, 1, 2, 3, 4, 5, 6, 7, 8, 9], [False, 1], [0, True], [HALF, 1], [0, (1, 2), (1, 2)],
                     [0, (1, 2), (1, 3)], ([0, 1],), [0, [1, 2]], [0, -1], "0", [(0, 2), 1], [(0, 1), (2, 2)])
        self.refuses("heights", *[[0, value] for value in NO_NUMBERS])
        self.refuses("heights", *[[value, 1] for value in NO_NUMBERS])
        self.accepts("heights", [0, 1], (0, 1), [(0, 1), (1, 12)], [0, 1, 2, 3, 4, 5, 6, 7, 8],
                     [0, (1, 3), (1, 2), (10 ** 9, 7)])

    def test_heights_are_compared_by_value(self):
        self.accepts("heights", [0, (9, 10), 1], [0, (1, 2), (2, 3)])
        self.refuses("heights", [0, 1, (9, 10)], [0, (2, 3), (1, 2)])

    def test_wrong_beds(self):
        self.refuses("bed", *NO_TUPLES)
        self.refuses("bed", [0, 0, 1, 1], (0, 0, 1), (0, 0, 1, 1, 1), (0, 0, 0, 1), (0, 0, 1, 0), (1, 0, 0, 1),
                     (0, 1, 1, 0), ((1, 2), 0, (1, 3), 1), (0, (1, 2), 1, (1, 2)), "0011")
        for at in range(4):
            for value in NO_NUMBERS:
                bed = list(BED)
                bed[at] = value
                self.refuses("bed", tuple(bed))
        self.accepts("bed", (-9, (-1, 2), (-8, 1), (-1, 3)), (0, 0, (1, 12), (1, 11)))

    def test_wrong_feet(self):
        self.refuses("foot", *NO_TUPLES)
        self.refuses("foot", [HALF, HALF], (0, 1), (1, 0), (-1, 1), (1, (-1, 2)), ((0, 1), 1), (HALF, HALF, HALF))
        self.refuses("foot", *[(value, 1) for value in NO_NUMBERS])
        self.refuses("foot", *[(1, value) for value in NO_NUMBERS])
        self.accepts("foot", (1, 2), ((1, 12), 100), ((1, 2), (1, 2)))

    def test_wrong_carriages(self):
        self.refuses("carriage", *[value for value in NO_TUPLES if value is not None])
        self.refuses("carriage", [1, 1], (0, 1), (1, 0), ((1, 3), 1), (1, (49, 100)), (-1, -1), (1, 1, 1), False)
        self.refuses("carriage", *[(value, 1) for value in NO_NUMBERS])
        self.refuses("carriage", *[(1, value) for value in NO_NUMBERS])
        self.accepts("carriage", None, (HALF, HALF), (1, HALF), ((51, 100), 99))
        for carriage in ((1, 3), (2, 2), (1, 1)):
            with self.assertRaises(BadSetup) as held:
                Setup([0, 1], BED, foot=(2, 3), carriage=carriage)
            self.assertEqual(held.exception.word, "carriage")
        self.assertEqual(Setup([0, 1], BED, foot=(2, 3), carriage=(2, 3)).carriage, ((2, 1), (3, 1)))

    def test_wrong_gaps(self):
        self.refuses("gap", *NO_NUMBERS)
        self.refuses("gap", -1, (-1, 12), (0, 0), (1, 1, 1))
        self.accepts("gap", 0, (0, 1), 5, (1, 12))

    def test_wrong_reaches(self):
        self.refuses("reach", *NO_TUPLES)
        self.refuses("reach", [0, 0], (-1, 0), (0, -1), (0, (-1, 7)), (0, 0, 0))
        self.refuses("reach", *[(value, 0) for value in NO_NUMBERS])
        self.refuses("reach", *[(0, value) for value in NO_NUMBERS])
        self.accepts("reach", (0, 0), (0, 3), ((1, 2), (0, 1)))

    def test_wrong_rasters(self):
        self.refuses("raster", None, True, 0, 7, "", "ab", [1], [None], ["ab"], [[1, 1]], [(1,)], [(1, 1, 1)], [()],
                     (1, 2), (1, (1, 2)), [(1, 1), (1, True)], [(1, 1), [1, 1]], ([(1, 1)],))
        self.refuses("raster", *[[(1, 1), (value, 1)] for value in NO_NUMBERS])
        self.refuses("raster", *[((1, value),) for value in NO_NUMBERS])
        self.refuses("raster", [(1, 1)] * 26, [(k, 0) for k in range(26)], tuple((k, 0) for k in range(26)))
        self.accepts("raster", [], (), [(1, 1)] * 25, [(k, 0) for k in range(25)], ((1, 2), (3, 4)))

    def test_the_first_wrong_word(self):
        for first in range(len(WORDS)):
            for other in range(first, len(WORDS)):
                given = {WORDS[first]: WRONG[WORDS[first]], WORDS[other]: WRONG[WORDS[other]]}
                with self.assertRaises(BadSetup) as held:
                    made(**given)
                self.assertEqual(held.exception.word, WORDS[first])
            with self.assertRaises(BadSetup) as held:
                made(**{word: WRONG[word] for word in WORDS[first:]})
            self.assertEqual(held.exception.word, WORDS[first])

    def test_a_raster_by_value(self):
        points = [((2, 3), 1), ((1, 2), 1), (0, (5, 4)), (0, (4, 3)), ((1, 2), (1, 1)), (9, -1), ((5, 1), -1)]
        self.assertEqual(made(raster=points).raster,
                         (numbers(5, -1), numbers(9, -1), ((1, 2), (1, 1)), ((2, 3), (1, 1)), ((0, 1), (5, 4)),
                          ((0, 1), (4, 3))))

    def test_layers_and_layer_at(self):
        setup = Setup([0, HALF, (7, 3), 9], BED)
        self.assertEqual(setup.layers, 3)
        for z, layer in ((0, None), ((0, 1), None), (HALF, 1), ((7, 3), 2), (9, 3), ((9, 1), 3), (1, None), (-1, None),
                         (10, None), ((1, 3), None)):
            self.assertEqual(setup.layer_at(z), layer)
        self.assertEqual(setup.layer_at(z=9), 3)
        for value in (None, True, "9", [9], (18, 2), ()):
            self.assertIsNone(Setup([0, 1, 9], BED).layer_at(value))
        self.assertEqual(Setup([0, 1], BED).layers, 1)
        self.assertEqual(Setup(range_of(9), BED).layers, 8)

    def test_equality(self):
        given = {"heights": [0, 1, 3], "bed": BED, "foot": (1, 2), "carriage": (2, 3), "gap": 1, "reach": (1, 2),
                 "raster": [(1, 1), (2, 2)]}
        other = {"heights": [0, 1, 4], "bed": (0, 0, 10, 11), "foot": (1, HALF), "carriage": (3, 3), "gap": 2,
                 "reach": (2, 1), "raster": [(1, 1)]}
        setup = Setup(**given)
        same = {"heights": ((0, 1), 1, (3, 1)), "bed": ((0, 1), 0, 10, 10), "foot": ((1, 1), 2),
                "carriage": (2, (3, 1)), "gap": (1, 1), "reach": (1, 2), "raster": ((2, 2), (1, 1), (2, 2))}
        self.assertTrue(setup == Setup(**same))
        self.assertFalse(setup != Setup(**same))
        for word in WORDS:
            changed = Setup(**{**given, word: other[word]})
            self.assertFalse(setup == changed)
            self.assertTrue(setup != changed)
        self.assertEqual(Setup([0, 1], BED), Setup([0, 1], BED, carriage=(HALF, HALF)))
        for value in (None, True, 0, "setup", (), [], (setup.heights, setup.bed), Net([], []), joined()):
            self.assertIs(setup == value, False)
            self.assertIs(setup != value, True)

    def test_even(self):
        self.assertEqual(Setup.even(3, BED), Setup([0, 1, 2, 3], BED))
        self.assertEqual(Setup.even(layers=2, bed=BED, thickness=(3, 2)), Setup([0, (3, 2), 3], BED))
        self.assertEqual(Setup.even(8, BED, (1, 12)).heights[8], (2, 3))
        self.assertIsInstance(Setup.even(1, BED), Setup)
        for layers, bed, thickness, word in [(0, BED, 1, "heights"), (-1, BED, 1, "heights"), (-7, BED, 1, "heights"),
                                             (9, BED, 1, "heights"), (10 ** 30, BED, 1, "heights"),
                                             (2, BED, 0, "heights"), (2, BED, (-1, 2), "heights"),
                                             (2, None, 1, "bed"), (2, [0, 0, 1, 1], 1, "bed"), (0, None, 1, "heights"),
                                             (1, (0, 0, 0, 1), 1, "bed")]:
            with self.assertRaises(BadSetup) as held:
                Setup.even(layers, bed, thickness)
            self.assertEqual(held.exception.word, word)

    def test_lists_that_are_changed_behind(self):
        heights, raster = [0, 1, 2], [(2, 2), (1, 1)]
        setup = Setup(heights, BED, raster=raster)
        self.assertEqual((heights, raster), ([0, 1, 2], [(2, 2), (1, 1)]))
        heights.append(3)
        raster[0] = (7, 7)
        self.assertEqual(setup, Setup([0, 1, 2], BED, raster=[(1, 1), (2, 2)]))


def range_of(many):
    return list(range(many))


SQUARE = rectangle(0, 0, 2, 2)
FULL = (SQUARE, joined(), hull([(0, 0), (3, 0), (0, 3)]), less(rectangle(0, 0, 4, 4), rectangle(1, 1, 2, 2)))
NOT_FULL = (dot(0, 0), segment(0, 0, 1, 1), joined(SQUARE, dot(5, 5)), joined(SQUARE, segment(2, 1, 3, 1)), None, True, 0,
            "patch", (), [], [SQUARE], (SQUARE,), (0, 0, 1, 1))
NO_LISTS = (True, False, 0, 3, "", "ab", "abc", SQUARE)


class LayersTest(unittest.TestCase):
    """What Wanted and checked_standing have in common."""

    def setUp(self):
        self.setup = Setup([0, 1, 2, 3], BED)

    def both(self):
        return (lambda items: Wanted(self.setup, items).slices,
                lambda items: checked_standing(self.setup, items))

    def refuses(self, items, layer):
        for act in self.both():
            with self.assertRaises(BadLayers) as held:
                act(items)
            self.assertEqual(held.exception.layer, layer)

    def test_what_is_accepted(self):
        for act in self.both():
            for items in ([SQUARE, joined(), SQUARE], FULL[:3], list(FULL[1:]), [joined()] * 3):
                found = act(items)
                self.assertIsInstance(found, tuple)
                self.assertEqual(found, tuple(items))

    def test_no_list_with_an_item_for_each_layer(self):
        for value in NO_LISTS + ([], (), [SQUARE] * 2, (SQUARE,) * 4, [SQUARE] * 7, [None] * 2, "abc"):
            self.refuses(value, 0)
        with self.assertRaises(BadLayers) as held:
            Wanted(self.setup, None)
        self.assertEqual(held.exception.layer, 0)

    def test_the_first_layer_that_is_no_full_patch(self):
        for value in NOT_FULL:
            for at in range(3):
                items = [SQUARE, joined(), SQUARE]
                items[at] = value
                self.refuses(items, at + 1)
                self.refuses(tuple(items), at + 1)
                self.refuses(items[:at] + [value] * (3 - at), at + 1)

    def test_lists_that_are_changed_behind(self):
        items = [SQUARE, joined(), SQUARE]
        wanted = Wanted(self.setup, items)
        standing = checked_standing(self.setup, items)
        items[0] = None
        self.assertEqual(wanted.slices, (SQUARE, joined(), SQUARE))
        self.assertEqual(standing, (SQUARE, joined(), SQUARE))
        self.assertEqual(items, [None, joined(), SQUARE])

    def test_wanted(self):
        wanted = Wanted(slices=FULL[:3], setup=self.setup)
        self.assertEqual(wanted.setup, self.setup)
        self.assertEqual(wanted.slices, FULL[:3])

    def test_new_bed(self):
        self.assertEqual(new_bed(setup=self.setup), (joined(),) * 3)
        self.assertEqual(len(new_bed(Setup.even(1, BED))), 1)
        for item in new_bed(self.setup):
            self.assertIsInstance(item, Patch)

    def test_none_is_the_new_bed(self):
        self.assertEqual(checked_standing(self.setup, None), new_bed(self.setup))
        self.assertEqual(checked_standing(setup=self.setup, standing=None), (joined(),) * 3)


if __name__ == "__main__":
    unittest.main()
