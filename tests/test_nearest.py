import random
import unittest

from formgrove.changes import distance, done, price
from formgrove.errors import NoneFits, TooBig
from formgrove.forms import form
from formgrove.joins import everything
from formgrove.nearest import nearest
from formgrove.prices import paper
from formgrove.runs import fits
from formgrove.texts import read, shown
from samples import fitting, flat, groves_up_to, lively_form, nested, of_count, random_parts, spelled

TAGS = ["a", "b"]
LISTS = form(3, [0], [2], [(0, "list", 1, 0), (0, "list", 1, 2), (1, "item", 2, 2)])


def key(grove):
    return (len(spelled(grove)), spelled(grove))


class Told(unittest.TestCase):
    def check(self, made, grove):
        """What is told, once it is known to be sound."""
        told = nearest(made, grove)
        self.assertIsInstance(told, tuple)
        cost, near, changes = told
        self.assertTrue(fits(made, near))
        self.assertEqual(done(grove, changes), near)
        self.assertEqual(price(grove, changes), cost)
        self.assertEqual(distance(grove, near), cost)
        self.assertEqual(min(paper(made, grove)[0][start] for start in made[1]
                             if paper(made, grove)[0][start] is not None), cost)
        return told

    def test_of_a_grove_that_fits(self):
        for text in ["list(item)", "list(item) list(item)"]:
            self.assertEqual(nearest(LISTS, read(text)), (0, read(text), []))
        for grove in [(), flat(60), nested(60)]:
            self.assertEqual(nearest(everything(["a"]), grove), (0, grove, []))

    def test_ordinary(self):
        for text, cost, near in [("", 2, "list(item)"), ("list", 1, "list(item)"), ("item", 2, "list(item)"),
                                 ("list(item item)", 1, "list(item)"), ("list(item(x))", 1, "list(item)"),
                                 ("list list", 2, "list(item)"), ("x(y)", 2, "list(item)"),
                                 ("list(item) x(y) z", 3, "list(item)"), ("list(item) x z", 2, "list(item)"),
                                 ("list(item) list(y) z", 2, "list(item) list(item)")]:
            told = self.check(LISTS, read(text))
            self.assertEqual((told[0], shown(told[1])), (cost, near), text)

    def test_the_changes(self):
        self.assertEqual(nearest(LISTS, read("list(item(x))"))[2], [("cut", 2)])
        self.assertEqual(nearest(LISTS, ())[2], [("put", 0, ("list", flat(1, "item")))])
        self.assertEqual(nearest(everything(["a"]), flat(2, "b")), (2, (), [("cut", 0), ("cut", 2)]))
        self.assertEqual(nearest(form(2, [0], [1], [(0, "a", 1, 1)]), flat(1, "b")), (1, flat(1), [("name", 0, "a")]))

    def test_of_two_at_the_same_distance_the_lesser_one(self):
        # Fewer tags come first: what is named could be cut too.
        self.assertEqual(nearest(everything(["a"]), flat(1, "b")), (1, (), [("cut", 0)]))
        # Of as many tags the one whose words come first.
        either = form(2, [0], [1], [(0, "c", 1, 1), (0, "b", 1, 1)])
        self.assertEqual(nearest(either, flat(1, "x"))[:2], (1, flat(1, "b")))
        self.assertEqual(nearest(either, ())[:2], (1, flat(1, "b")))
        # By another start.
        starts = form(4, [0, 1, 2], [3], [(0, "c", 3, 3), (1, "b", 3, 3), (2, "a", 3, 0)])
        self.assertEqual(nearest(starts, flat(1, "x"))[:2], (1, flat(1, "b")))
        # Whatever the least groves of the starts are.
        rules = [(0, "a", 3, 3), (0, "z", 3, 2), (1, "b", 3, 3), (1, "y", 3, 2), (2, "m", 3, 3)]
        self.assertEqual(nearest(form(4, [0, 1], [3], rules), flat(2, "m"))[:2], (1, flat(1, "y") + flat(1, "m")))
        # A deep row's words come behind a flat one's.
        two = form(4, [0], [3], [(0, "a", 3, 1), (1, "a", 3, 3), (0, "a", 2, 3), (2, "a", 3, 3)])
        self.assertEqual(nearest(two, flat(1))[:2], (1, flat(2)))
        self.assertEqual(nearest(two, ())[:2], (2, flat(2)))

    def test_far_off(self):
        told = self.check(LISTS, flat(60, "x"))
        self.assertEqual(told[:2], (61, (("list", flat(1, "item")),)))
        told = self.check(form(1, [0], [0], []), nested(60))
        self.assertEqual(told, (60, (), [("cut", 0)]))
        made, grove = of_count(300)
        self.assertEqual(self.check(made, ())[:2], (300, grove))
        self.assertEqual(self.check(made, flat(60, "b"))[1], grove)
        self.check(made, nested(60))

    def test_against_all_small_groves(self):
        chance = random.Random(64)
        groves = groves_up_to(5, TAGS)
        checked = 0
        for _ in range(120):
            made = chance.choice([form(*random_parts(chance, 4, TAGS, 9)), lively_form(chance, 4, TAGS, 9)])
            grove = chance.choice(groves[:60])
            try:
                told = self.check(made, grove)
            except NoneFits:
                self.assertEqual(fitting(made, groves), [])
                continue
            # At this distance there are no groves of more tags.
            if told[0] + len(spelled(grove)) // 2 <= 5:
                wanted = fitting(made, groves)
                distances = [distance(grove, other) for other in wanted]
                self.assertEqual(told[0], min(distances))
                near = [other for other, far in zip(wanted, distances) if far == told[0]]
                self.assertEqual(told[1], min(near, key=key))
                checked += told[0] > 0 and len(near) > 1
        self.assertGreater(checked, 15)

    def test_sound_for_greater_ones(self):
        chance = random.Random(65)
        for _ in range(15):
            made = lively_form(chance, 12, ["a", "b", "c"], 60)
            grove = ()
            while len(spelled(grove)) < 110:
                tree = (chance.choice("abc"), chance.choice([(), flat(2, "b"), grove[:2], grove]))
                if len(spelled(grove + (tree,))) <= 120:
                    grove += (tree,)
            try:
                self.check(made, grove)
            except TooBig:
                self.fail("too big")

    def test_what_is_told_is_the_askers_own(self):
        nearest(LISTS, ())[2].clear()
        self.assertEqual(len(nearest(LISTS, ())[2]), 1)


class Refused(unittest.TestCase):
    def refused(self, error, made, grove):
        with self.assertRaises(error):
            nearest(made, grove)

    def test_none_fits(self):
        for made in [form(0, [], [], []), form(1, [], [0], []), form(1, [0], [], [(0, "a", 0, 0)]),
                     form(2, [0], [1], [(0, "a", 0, 1)])]:
            for grove in [(), flat(1), nested(3)]:
                self.refused(NoneFits, made, grove)

    def test_too_big(self):
        big = of_count(301)[0]
        for grove in [(), flat(1), nested(60)]:
            self.refused(TooBig, big, grove)
        self.assertEqual(nearest(of_count(300)[0], ())[0], 300)

    def test_by_a_kind_to_which_nothing_leads(self):
        big = of_count(301)[0]
        self.refused(TooBig, form(big[0], [0], big[2], big[3]), ())
        self.refused(TooBig, form(big[0], [3], big[2], big[3]), flat(1))
        # One that isn't live is no hindrance.
        good = of_count(300)[0]
        more = form(good[0] + 1, good[1], good[2], good[3] + ((good[0], "a", good[0], 0),))
        self.assertEqual(nearest(more, ())[0], 300)

    def test_none_fits_comes_first(self):
        big = of_count(301)[0]
        self.refused(NoneFits, form(big[0], [], big[2], big[3]), ())
        self.refused(NoneFits, form(big[0] + 1, [big[0]], big[2], big[3]), flat(2))


if __name__ == "__main__":
    unittest.main()
