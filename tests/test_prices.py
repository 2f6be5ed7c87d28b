import random
import unittest

from formgrove.changes import distance
from formgrove.forms import form
from formgrove.joins import everything
from formgrove.prices import paper
from formgrove.texts import read
from samples import (flat, full, groves_up_to, is_of, lively_form, nested, of_count, random_parts, rests_of, spelled,
                     variants)

TAGS = ["a", "b"]
# One tree `list` or more, each with one `item` within.
LISTS = form(3, [0], [2], [(0, "list", 1, 0), (0, "list", 1, 2), (1, "item", 2, 2)])


class Told(unittest.TestCase):
    def test_of_nothing(self):
        self.assertEqual(paper(LISTS, ()), [[2, 1, 0]])
        self.assertEqual(paper(form(0, [], [], []), ()), [[]])
        self.assertEqual(paper(everything(["a"]), ()), [[0]])

    def test_ordinary(self):
        # The places: list, item, /, /, and the one behind.
        self.assertEqual(paper(LISTS, read("list(item)")), [
            [0, 2, 2], [2, 0, 1], [2, 1, 0], [2, 1, 0], [2, 1, 0]])
        self.assertEqual(paper(LISTS, read("list"))[0], [1, 1, 1])
        self.assertEqual(paper(LISTS, read("item(list)"))[0], [2, 1, 2])
        self.assertEqual(paper(LISTS, read("x"))[0], [2, 1, 1])

    def test_of_no_kinds(self):
        self.assertEqual(paper(form(0, [], [], []), read("a(b) c")), [[]] * 7)

    def test_kinds_that_are_not_live(self):
        made = form(4, [0], [1], [(0, "a", 1, 2), (2, "a", 2, 1), (3, "a", 1, 1), (0, "b", 1, 3)])
        self.assertEqual(paper(made, read("a")), [[1, 1, None, 0], [2, 0, None, 1], [2, 0, None, 1]])
        self.assertEqual(paper(form(2, [0], [], [(0, "a", 0, 1)]), flat(2)), [[None, None]] * 5)

    def test_each_number_against_the_changes_of_small_groves(self):
        chance = random.Random(60)
        known = {grove: variants(grove, 0, 3, TAGS) for grove in groves_up_to(2, TAGS) + [flat(3), nested(3)]}
        seen = set()
        for _ in range(40):
            made = form(*random_parts(chance, 4, TAGS, 10))
            for grove in chance.sample(sorted(known), 8):
                told = paper(made, grove)
                for kind in range(made[0]):
                    least = {}
                    for cost, changes, come in known[grove]:
                        least.setdefault(come, []).append(cost)
                    prices = [min(costs) for come, costs in least.items() if is_of(made, kind, come)]
                    number = told[0][kind]
                    self.assertEqual(number if number is not None and number <= 3 else None,
                                     min(prices, default=None))
                    seen.add(number)
        self.assertLessEqual({None, 0, 1, 2, 3}, seen)

    def test_for_each_place_that_of_the_rest(self):
        chance = random.Random(61)
        groves = groves_up_to(5, TAGS)
        for _ in range(100):
            made = lively_form(chance, 4, TAGS, 9)
            grove = chance.choice(groves)
            told = paper(made, grove)
            self.assertEqual(len(told), len(spelled(grove)) + 1)
            for place, rest in rests_of(grove).items():
                self.assertEqual(told[place], paper(made, rest)[0])

    def test_against_the_distances(self):
        chance = random.Random(62)
        groves = groves_up_to(4, TAGS)
        for _ in range(60):
            made = lively_form(chance, 3, TAGS, 9)
            grove = chance.choice(groves[:60])
            told = paper(made, grove)[0]
            for kind in range(made[0]):
                prices = [distance(grove, other) for other in groves if is_of(made, kind, other)]
                if prices:
                    self.assertLessEqual(told[kind], min(prices))
                if told[kind] is not None and told[kind] + len(spelled(grove)) // 2 <= 4:
                    self.assertEqual(told[kind], min(prices))

    def test_many_tags_and_great_prices(self):
        made = everything(["b"])
        self.assertEqual(paper(made, flat(60))[0], [60])
        self.assertEqual(paper(made, nested(60))[::10], [[60 - 10 * number] for number in range(6)] + [[0]] * 7)
        made, grove = of_count(511)
        self.assertEqual(paper(made, ())[0][made[1][0]], 511)
        self.assertEqual(paper(made, flat(60, "b"))[0][made[1][0]], 511 + 60 - 9)
        self.assertEqual(paper(made, full(5))[0][5], 0)
        # Each kind has twice the tags of the one ahead.
        doubled = form(24, [23], [0], [(kind, "a", kind - 1, kind - 1) for kind in range(1, 24)])
        self.assertEqual(paper(doubled, ())[0][23], 2 ** 23 - 1)
        self.assertEqual(paper(doubled, flat(1))[0][23], 2 ** 23 - 2)
        self.assertEqual(paper(doubled, flat(1))[1][23], 2 ** 23 - 1)

    def test_twenty_four_kinds(self):
        chance = random.Random(63)
        rules = [(chance.randrange(24), chance.choice("abc"), chance.randrange(24), chance.randrange(24))
                 for _ in range(300)]
        made = form(24, [0], [3, 9], rules)
        grove = nested(20) + flat(20, "b") + (("c", flat(10)),) + nested(9, "c")
        self.assertEqual(len(spelled(grove)), 120)
        told = paper(made, grove)
        for place, rest in list(rests_of(grove).items())[::7]:
            self.assertEqual(told[place], paper(made, rest)[0])

    def test_what_is_told_is_the_askers_own(self):
        grove = read("a(b) c")
        made = everything(["a", "b"])
        kept = paper(made, grove)
        told = paper(made, grove)
        told[0][0] = 77
        told[2].append(5)
        self.assertEqual(told[3:], kept[3:])
        told.clear()
        self.assertEqual(paper(made, grove), kept)


if __name__ == "__main__":
    unittest.main()
