"""The examples of the document that have landed."""

import unittest

from mostlaid.feet import drawn_in
from mostlaid.patches import rectangle


class ExamplesTest(unittest.TestCase):
    def test_the_first_example(self):
        p = drawn_in(rectangle(0, 0, 4, 1), (1, 2), (1, 2))
        self.assertEqual([p.levels, p.rows, p.bands], [((1, 2),), ((((1, 2), (7, 2)),),), ()])


if __name__ == "__main__":
    unittest.main()
