import unittest

from mostlaid import errors

LISTED = {
    "BadNumber": ("value",), "BadRule": ("rule",), "BadMode": ("mode",), "BadPoint": ("point",),
    "BadNet": ("word", "index"), "BadLoft": (), "NotClosed": ("edges",), "NotTwo": ("edge",),
    "Twisted": ("faces",), "Singular": (), "BadHeights": (), "BadSetup": ("word",),
    "BadLayers": ("layer",), "NoPoint": ("layer", "point"), "Laid": ("layer", "point"),
    "NoProp": ("layer", "point"), "BadFilling": ("filling",), "BadChooser": ("chooser",),
    "UnknownJob": ("number",), "NotReady": ("number",), "AllDone": (), "BadIndex": ("index",),
    "NotOrder": (), "Ring": ("bodies",), "BadRow": ("row",), "NoLayer": ("height",),
    "Touch": ("part", "layer"), "Hangs": ("point",), "Outside": ("point",), "Loses": ("layer",),
    "BadText": ("line", "why"),
}

VALUES = (None, True, 0, -7, 10 ** 5000, "word", "", (1, 2), [1, [2, (3, "x")]], ((1, 2), (3, 4)))


def ways_to_make(kind, names, values):
    """The error made with its parameters by position, by name, and mixed."""
    made = [kind(*values), kind(**dict(zip(names, values)))]
    made.append(kind(**dict(list(zip(names, values))[::-1])))
    for k in range(len(names)):
        made.append(kind(*values[:k], **dict(list(zip(names, values))[k:])))
    return made


class ErrorsTest(unittest.TestCase):
    def test_all_are_listed(self):
        self.assertEqual(len(LISTED), 31)
        found = [name for name, value in vars(errors).items()
                 if isinstance(value, type) and issubclass(value, errors.Refused) and value is not errors.Refused]
        self.assertEqual(sorted(found), sorted(LISTED))

    def test_the_base(self):
        self.assertEqual(errors.Refused.__bases__, (ValueError,))

    def test_attributes_are_the_values_as_passed(self):
        for name, names in LISTED.items():
            kind = getattr(errors, name)
            for at in range(len(VALUES)):
                values = [VALUES[(at + k) % len(VALUES)] for k in range(len(names))]
                for error in ways_to_make(kind, names, values):
                    for attribute, value in zip(names, values):
                        self.assertIs(getattr(error, attribute), value)

    def test_each_is_refused_and_none_of_the_others(self):
        for name, names in LISTED.items():
            kind = getattr(errors, name)
            self.assertEqual(kind.__bases__, (errors.Refused,))
            error = kind(*[1 for _ in names])
            self.assertIsInstance(error, errors.Refused)
            self.assertIsInstance(error, ValueError)
            for other in LISTED:
                if other != name:
                    self.assertNotIsInstance(error, getattr(errors, other))

    def test_they_can_be_raised_and_caught(self):
        for name, names in LISTED.items():
            kind = getattr(errors, name)
            for base in (kind, errors.Refused, ValueError):
                with self.assertRaises(base) as held:
                    raise kind(*["here" for _ in names])
                for attribute in names:
                    self.assertEqual(getattr(held.exception, attribute), "here")

    def test_a_second_one_changes_nothing_in_the_first(self):
        for name, names in LISTED.items():
            kind = getattr(errors, name)
            first = kind(*[("first", k) for k in range(len(names))])
            second = kind(*[("second", k) for k in range(len(names))])
            for k, attribute in enumerate(names):
                self.assertEqual(getattr(first, attribute), ("first", k))
                self.assertEqual(getattr(second, attribute), ("second", k))

    def test_lists_are_held_and_not_copied(self):
        edges = [(0, 1, 1)]
        error = errors.NotClosed(edges)
        self.assertIs(error.edges, edges)


if __name__ == "__main__":
    unittest.main()
