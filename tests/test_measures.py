import random
import unittest

from formgrove.forms import form
from formgrove.measures import Kinds, Measure, Others
from formgrove.runs import fits, kinds_of
from samples import groves_up_to, is_of, random_parts

ONE = form(3, [0, 2], [1, 2], [(0, "a", 1, 2), (0, "b", 2, 2), (1, "a", 2, 1), (2, "a", 0, 0)])


def value_of(measure, grove):
    """The value of a grove, by the document's words."""
    if not grove:
        return measure.nothing()
    return measure.above(grove[0][0], value_of(measure, grove[0][1]), value_of(measure, grove[1:]))


class Told(unittest.TestCase):
    def test_classes(self):
        self.assertTrue(issubclass(Kinds, Measure))
        self.assertTrue(issubclass(Others, Kinds))
        self.assertIsInstance(Measure(), Measure)
        for name in ["nothing", "above", "good"]:
            self.assertTrue(callable(getattr(Measure(), name)))

    def test_ordinary(self):
        for measure in [Kinds(ONE), Others(ONE)]:
            self.assertEqual(measure.nothing(), (1, 2))
            self.assertEqual(measure.above("a", (1, 2), (1, 2)), (0, 1))
            self.assertEqual(measure.above("b", (1, 2), (1, 2)), (0,))
            self.assertEqual(measure.above("a", (0,), (0, 1)), (2,))
            self.assertEqual(measure.above("a", (), (1, 2)), ())
            self.assertEqual(measure.above("a", (1, 2), ()), ())
            self.assertEqual(measure.above("c", (0, 1, 2), (0, 1, 2)), ())

    def test_good(self):
        for value, wanted in [((), False), ((1,), False), ((0,), True), ((2,), True), ((0, 1), True), ((1, 2), True)]:
            self.assertIs(Kinds(ONE).good(value), wanted)
            self.assertIs(Others(ONE).good(value), not wanted)

    def test_of_no_kinds(self):
        empty = form(0, [], [], [])
        for measure in [Kinds(empty), Others(empty)]:
            self.assertEqual(measure.nothing(), ())
            self.assertEqual(measure.above("a", (), ()), ())
        self.assertIs(Kinds(empty).good(()), False)
        self.assertIs(Others(empty).good(()), True)

    def test_of_one_kind(self):
        measure = Kinds(form(1, [0], [0], [(0, "a", 0, 0)]))
        self.assertEqual(measure.nothing(), (0,))
        self.assertEqual(measure.above("a", (0,), (0,)), (0,))
        self.assertEqual(measure.above("b", (0,), (0,)), ())

    def test_the_kinds_of_which_a_grove_is(self):
        chance = random.Random(25)
        groves = groves_up_to(4, ["a", "b"])
        for _ in range(25):
            made = form(*random_parts(chance, 5, ["a", "b"], 14))
            for grove in groves:
                value = value_of(Kinds(made), grove)
                self.assertEqual(value, tuple(kind for kind in range(made[0]) if is_of(made, kind, grove)))
                self.assertEqual(value, tuple(kinds_of(made, grove)))
                self.assertEqual(value, value_of(Others(made), grove))
                self.assertIs(Kinds(made).good(value), fits(made, grove))
                self.assertIs(Others(made).good(value), not fits(made, grove))


if __name__ == "__main__":
    unittest.main()
