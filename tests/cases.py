"""What several tests need."""

import unittest

from mostlaid.patches import Patch

from tests.reference import form_faults, number as n


class PatchCase(unittest.TestCase):
    def shows(self, p, levels, rows, bands):
        """Looks at all attributes of a patch; integers and Fractions are written for numbers."""
        self.assertIsInstance(p, Patch)
        self.assertEqual(p.levels, tuple(n(y) for y in levels))
        self.assertEqual(p.rows, tuple(tuple((n(a), n(b)) for a, b in row) for row in rows))
        self.assertEqual(p.bands, tuple(tuple(tuple(n(x) for x in strip) for strip in band) for band in bands))
        self.assertEqual(form_faults(p), [])


class RefusalCase(unittest.TestCase):
    def refuses(self, kind, act, *values):
        """Looks at the error that a call raises: its class, and its parameters in their order."""
        with self.assertRaises(kind) as held:
            act()
        self.assertIs(type(held.exception), kind)
        self.assertEqual(tuple(vars(held.exception).values()), values)
        return held.exception
