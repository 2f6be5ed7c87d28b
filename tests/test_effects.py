import random
import unittest

from formgrove.changers import changer
from formgrove.effects import Effects
from formgrove.forms import form
from formgrove.joins import everything
from formgrove.measures import Measure
from formgrove.runs import fits
from samples import become, flat, groves_up_to, is_of, leads, nested, random_changer, random_parts, spelled
from test_measures import value_of

KIDS = ("kids", 0)


def plain_value(made, wanted, grove):
    """The value of a grove by the document's words, told of the changer and the form."""
    value = []
    for mode in range(made[0]):
        come = become(made, grove, mode)
        value.append(tuple((first, last) for first in range(wanted[0]) for last in range(wanted[0])
                           if leads(wanted, first, last, come)))
    return tuple(value)


def counting(many):
    """A form of which a row of `b` leads from each of the first kinds to the one that so many trees count up to."""
    return form(many + 1, [0], [many], [(kind, "b", many, (kind + 1) % many) for kind in range(many)])


class Told(unittest.TestCase):
    def test_is_a_measure(self):
        self.assertTrue(issubclass(Effects, Measure))
        self.assertIsInstance(Effects((1, ()), everything(["a"])), Measure)

    def test_ordinary(self):
        made = changer(2, [(0, "a", (("tag", "b", (("kids", 1),)), KIDS)), (1, "b", ())])
        wanted = form(3, [0], [1, 2], [(0, "b", 1, 1), (0, "b", 2, 2), (1, "a", 1, 0), (2, "b", 0, 0)])
        measure = Effects(made, wanted)
        nothing = (((0, 0), (1, 1), (2, 2)),) * 2
        self.assertEqual(measure.nothing(), nothing)
        # `a` becomes `b` in mode 0 and stays in mode 1; `b` stays, or goes.
        self.assertEqual(measure.above("a", nothing, nothing), (((0, 1), (0, 2)), ((1, 0),)))
        self.assertEqual(measure.above("b", nothing, nothing), (((0, 1), (0, 2)), nothing[0]))
        self.assertEqual(measure.above("c", nothing, nothing), ((), ()))
        # `a(b)` becomes `b b` and `a`.
        within = measure.above("b", nothing, nothing)
        self.assertEqual(measure.above("a", within, nothing), plain_value(made, wanted, (("a", flat(1, "b")),)))
        self.assertEqual(plain_value(made, wanted, (("a", flat(1, "b")),)), ((), ((1, 0),)))

    def test_for_each_mode(self):
        for modes in [1, 2, 3, 4]:
            measure = Effects((modes, ()), everything(["a"]))
            self.assertEqual(measure.nothing(), (((0, 0),),) * modes)
            self.assertEqual(measure.above("a", measure.nothing(), measure.nothing()), (((0, 0),),) * modes)
            self.assertEqual(measure.above("b", measure.nothing(), measure.nothing()), ((),) * modes)

    def test_good(self):
        measure = Effects((2, ()), form(4, [0, 2], [1, 2], [(0, "a", 0, 0)]))
        for value, wanted in [(((), ()), False), ((((0, 1),), ()), True), ((((1, 0),), ()), False),
                              ((((2, 2),), ()), True), ((((0, 0), (0, 3), (1, 1), (3, 1)), ()), False),
                              (((), ((0, 1), (2, 2))), False), ((((0, 0), (2, 1)), ((0, 0),)), True)]:
            self.assertIs(measure.good(value), wanted)

    def test_of_no_kinds(self):
        measure = Effects((3, ()), form(0, [], [], []))
        self.assertEqual(measure.nothing(), ((), (), ()))
        self.assertEqual(measure.above("a", ((), (), ()), ((), (), ())), ((), (), ()))
        self.assertIs(measure.good(((), (), ())), False)

    def test_a_row_that_leads_to_no_end_is_told_too(self):
        measure = Effects((1, ()), form(2, [], [1], [(0, "a", 1, 0)]))
        value = value_of(measure, flat(2))
        self.assertEqual(value, (((0, 0),),))
        self.assertIs(measure.good(value), False)

    def test_against_the_words_of_the_document(self):
        chance = random.Random(43)
        groves = groves_up_to(3, ["a", "b"])
        checked = 0
        for _ in range(120):
            made = random_changer(chance, chance.randrange(1, 5), ["a", "b"])
            wanted = form(*random_parts(chance, 12, ["a", "b"], 40))
            measure = Effects(made, wanted)
            for grove in chance.sample(groves, 6):
                if all(len(spelled(become(made, grove, mode))) <= 24 for mode in range(made[0])):
                    value = value_of(measure, grove)
                    self.assertEqual(value, plain_value(made, wanted, grove))
                    self.assertIs(measure.good(value), any(is_of(wanted, start, become(made, grove))
                                                           for start in wanted[1]))
                    checked += any(value[0]) and len(set(value)) > 1
        self.assertGreater(checked, 50)

    def test_twelve_kinds_and_many_rules(self):
        chance = random.Random(44)
        rules = [(chance.randrange(12), chance.choice("ab"), chance.randrange(12), chance.randrange(12))
                 for _ in range(200)]
        wanted = form(12, [3], [5, 7], rules)
        made = changer(4, [(mode, "a", (("tag", "b", (("kids", 3 - mode),)), ("kids", mode))) for mode in range(4)])
        measure = Effects(made, wanted)
        for grove in [nested(3), flat(2) + nested(2, "b"), (("a", flat(2)), ("b", flat(1)))]:
            self.assertEqual(value_of(measure, grove), plain_value(made, wanted, grove))

    def test_of_groves_that_become_greater_than_300_tags(self):
        double = changer(1, [(0, "a", (KIDS, KIDS))])
        triple = changer(2, [(0, "a", (("kids", 1), KIDS, ("kids", 1))), (1, "a", (("kids", 1),) * 3)])
        for many in [2, 3, 5, 7, 11]:
            wanted = counting(many)
            for count in [8, 9, 10, 50]:
                grove = flat(1, "b")
                for _ in range(count):
                    grove = (("a", grove),)
                for made, factor in [(double, 2 ** count), (triple, 3 ** count)]:
                    value = value_of(Effects(made, wanted), grove)
                    if made == triple:
                        # In mode 0 each level has what is within three times, once of it in mode 0.
                        self.assertEqual(value[0], value[1])
                    self.assertEqual([pair for pair in value[0] if pair[0] < many],
                                     [(kind, (kind + factor) % many) for kind in range(many)])

    def test_deeper_than_100(self):
        made = changer(1, [(0, "a", (("tag", "b", (("tag", "b", (KIDS,)),)),))])
        # Kind k has the groves of which the depth is k by three.
        wanted = form(4, [0], [0, 3], [(0, "b", 2, 3), (1, "b", 0, 3), (2, "b", 1, 3)])
        for count in [60, 61, 62, 90]:
            value = value_of(Effects(made, wanted), nested(count))
            self.assertIn((2 * count % 3, 3), value[0])
            self.assertEqual(len(value[0]), 1)
            self.assertIs(Effects(made, wanted).good(value), 2 * count % 3 == 0)

    def test_told_again(self):
        made = changer(2, [(0, "a", (("kids", 1), KIDS))])
        wanted = everything(["a", "b"])
        measure = Effects(made, wanted)
        nothing = measure.nothing()
        first = measure.above("a", nothing, nothing)
        for tag in ["a", "b", "c", "a"]:
            measure.above(tag, first, nothing)
        self.assertEqual(measure.above("a", nothing, nothing), first)
        self.assertEqual(measure.nothing(), nothing)
        self.assertEqual(measure.above("c", nothing, first), ((), ()))

    def test_the_grove_fits_that_becomes_one_that_fits(self):
        made = changer(1, [(0, "a", (("tag", "b", ()), KIDS))])
        wanted = form(2, [0], [1], [(0, "b", 1, 0), (0, "b", 1, 1)])
        measure = Effects(made, wanted)
        for grove in groves_up_to(4, ["a", "b", "c"]):
            self.assertIs(measure.good(value_of(measure, grove)), fits(wanted, become(made, grove)))


if __name__ == "__main__":
    unittest.main()
