import unittest

from formgrove import errors

REFUSALS = [
    "NoGrove", "BadForm", "TooMany", "TooBig", "NoneFits", "NoBook", "TwiceNamed", "NoName", "Ring",
    "BadChanger", "NoRecipe", "NotStraight", "NoChange", "NoRow",
]


class Errors(unittest.TestCase):
    def test_any_refusal_is_a_value_error(self):
        self.assertEqual(errors.GroveError.__bases__, (ValueError,))

    def test_each_refusal_is_straight_under_grove_error(self):
        self.assertEqual(len(REFUSALS), 14)
        for name in REFUSALS:
            with self.subTest(name):
                self.assertEqual(getattr(errors, name).__bases__, (errors.GroveError,))

    def test_there_are_no_others(self):
        found = [name for name, value in vars(errors).items() if isinstance(value, type)]
        self.assertEqual(sorted(found), sorted(REFUSALS + ["GroveError"]))

    def test_fields_are_set_when_made(self):
        self.assertEqual(errors.NoGrove(7).place, 7)
        self.assertEqual(errors.TwiceNamed("DOC").name, "DOC")
        self.assertEqual(errors.NoName("DOC").name, "DOC")
        self.assertEqual(errors.Ring(["A", "B"]).names, ["A", "B"])

    def test_a_rings_names_are_its_own(self):
        names = ["A", "B"]
        ring = errors.Ring(names)
        names.append("C")
        self.assertEqual(ring.names, ["A", "B"])


if __name__ == "__main__":
    unittest.main()
