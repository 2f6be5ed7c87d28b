import random
import unittest

from formgrove.forms import form
from formgrove.runs import fits, kinds_of, run_of, walks
from samples import bounds, flat, groves_up_to, is_of, nested, random_parts, spelled

# Kind 0: rows of `list` trees with an `item` each; kind 1: an item and nothing behind; kind 2: nothing.
LISTS = form(3, [0], [0, 2], [(0, "list", 1, 0), (1, "item", 2, 2)])
# All rows of `a` trees are of both kinds, in many ways.
MANY = form(2, [0, 1], [0, 1], [(q, "a", p, r) for q in range(2) for p in range(2) for r in range(2)])
ANYTHING = form(1, [0], [0], [(0, tag, 0, 0) for tag in ["a", "b", "c", "deep"]])


def leads(made, grove, run):
    """Whether a run leads through a grove, in the document's words."""
    start, numbers = run
    if start not in made[1]:
        return False
    left = list(numbers)
    at = start
    open_rules = []
    for word in spelled(grove):
        if word == "/":
            if at not in made[2]:
                return False
            at = open_rules.pop()[3]
            continue
        if not left or left[0] not in range(len(made[3])):
            return False
        rule = made[3][left.pop(0)]
        if rule[0] != at or rule[1] != word:
            return False
        open_rules.append(rule)
        at = rule[2]
    return at in made[2] and not left


def lists_from(made, kind, grove):
    """All lists of rule numbers that lead through a grove from a kind, each with nothing left."""
    if not grove:
        return [[]] if kind in made[2] else []
    tag, within = grove[0]
    found = []
    for number, (q, word, p, r) in enumerate(made[3]):
        if (q, word) == (kind, tag):
            found += [[number] + one + other for one in lists_from(made, p, within)
                      for other in lists_from(made, r, grove[1:])]
    return found


class Kinds(unittest.TestCase):
    def test_nothing_is_of_the_ends(self):
        self.assertEqual(kinds_of(LISTS, ()), [0, 2])
        self.assertEqual(kinds_of(form(2, [0], [], []), ()), [])
        self.assertEqual(kinds_of(form(0, [], [], []), ()), [])
        self.assertEqual(kinds_of(form(0, [], [], []), flat(1)), [])

    def test_ordinary(self):
        self.assertEqual(kinds_of(LISTS, (("item", ()),)), [1])
        self.assertEqual(kinds_of(LISTS, (("list", (("item", ()),)),)), [0])
        self.assertEqual(kinds_of(LISTS, (("list", ()),)), [])
        self.assertEqual(kinds_of(MANY, flat(2)), [0, 1])
        self.assertEqual(kinds_of(MANY, flat(2, "b")), [])

    def test_fits(self):
        item = (("item", ()),)
        self.assertIs(fits(LISTS, ()), True)
        self.assertIs(fits(LISTS, (("list", item),) * 3), True)
        self.assertIs(fits(LISTS, item), False)
        self.assertIs(fits(LISTS, (("list", item * 2),)), False)
        self.assertIs(fits(LISTS, (("list", item), ("item", ()))), False)
        self.assertIs(fits(form(1, [], [0], []), ()), False)

    def test_against_the_words_of_the_document(self):
        chance = random.Random(4)
        groves = groves_up_to(4, ["a", "b"])
        for _ in range(120):
            made = form(*random_parts(chance, 4, ["a", "b"], 9))
            for grove in groves[::7]:
                kinds = [kind for kind in range(made[0]) if is_of(made, kind, grove)]
                self.assertEqual(kinds_of(made, grove), kinds)
                self.assertIs(fits(made, grove), any(start in kinds for start in made[1]))

    def test_at_the_bounds(self):
        for grove in [flat(300), nested(100), bounds()]:
            self.assertEqual(kinds_of(ANYTHING, grove), [0])
            self.assertIs(fits(ANYTHING, grove), True)
            self.assertIs(fits(ANYTHING, grove[:-1] + (("x", ()),)), False)

    def test_a_counter_of_63(self):
        # Kind k: a row of k trees; kind 0 nothing.
        made = form(64, [63], [0], [(kind, "a", 0, kind - 1) for kind in range(1, 64)])
        self.assertEqual(kinds_of(made, flat(63)), [63])
        self.assertIs(fits(made, flat(63)), True)
        self.assertIs(fits(made, flat(62)), False)
        self.assertIs(fits(made, flat(64)), False)

    def test_the_greatest_form_and_grove(self):
        chance = random.Random(5)
        rules = [(chance.randrange(64), "a", chance.randrange(64), chance.randrange(64)) for _ in range(399)]
        made = form(64, list(range(64)), list(range(64)), rules + [(0, "a", 0, 0)])
        grove = nested(100) + flat(200)
        self.assertIn(0, kinds_of(made, grove))
        self.assertIs(walks(made, grove, run_of(made, grove)), True)


class Runs(unittest.TestCase):
    def test_ordinary(self):
        lists = (("list", (("item", ()),)),) * 2
        self.assertEqual(run_of(LISTS, lists), (0, [0, 1, 0, 1]))
        self.assertEqual(run_of(LISTS, ()), (0, []))
        self.assertIsNone(run_of(LISTS, (("item", ()),)))
        self.assertIsNone(run_of(form(0, [], [], []), ()))

    def test_the_told_things_are_of_their_kinds(self):
        run = run_of(LISTS, (("list", (("item", ()),)),))
        self.assertIs(type(run), tuple)
        self.assertIs(type(run[1]), list)

    def test_the_least_start_counts_more_than_the_list(self):
        made = form(3, [1, 2], [0], [(1, "b", 0, 0), (2, "a", 0, 0), (1, "a", 0, 0)])
        self.assertEqual(run_of(made, flat(1)), (1, [0]))
        self.assertEqual(run_of(form(3, [2], [0], [(1, "a", 0, 0), (2, "a", 0, 0)]), flat(1)), (2, [1]))

    def test_a_start_that_leads_nowhere_is_passed(self):
        made = form(3, [0, 1, 2], [2], [(0, "a", 0, 2), (1, "a", 2, 2), (2, "a", 2, 2)])
        self.assertEqual(run_of(made, flat(1)), (1, [1]))

    def test_the_first_list(self):
        self.assertEqual(run_of(MANY, nested(2) + flat(1)), (0, [0, 0, 0]))
        # The first rule leads in, but not through what stands behind.
        made = form(3, [0], [2], [(0, "a", 2, 0), (0, "a", 2, 1), (1, "b", 2, 2)])
        self.assertEqual(run_of(made, flat(1) + flat(1, "b")), (0, [1, 2]))

    def test_against_all_runs(self):
        chance = random.Random(6)
        groves = groves_up_to(3, ["a", "b"])
        for _ in range(150):
            made = form(*random_parts(chance, 3, ["a", "b"], 9))
            for grove in groves[::3]:
                runs = [(start, numbers) for start in made[1] for numbers in lists_from(made, start, grove)]
                self.assertEqual(run_of(made, grove), min(runs, default=None))
                for run in runs:
                    self.assertIs(walks(made, grove, run), True)

    def test_at_the_bounds(self):
        for grove in [flat(300), nested(100), bounds()]:
            run = run_of(ANYTHING, grove)
            order = ["a", "b", "c", "deep"]
            self.assertEqual(run, (0, [order.index(word) for word in spelled(grove) if word != "/"]))
            self.assertIs(walks(ANYTHING, grove, run), True)

    def test_what_is_told_is_the_askers_own(self):
        lists = (("list", (("item", ()),)),)
        run_of(LISTS, lists)[1].clear()
        kinds_of(LISTS, lists).clear()
        self.assertEqual(run_of(LISTS, lists), (0, [0, 1]))
        self.assertEqual(kinds_of(LISTS, lists), [0])


class Walks(unittest.TestCase):
    GROVE = (("list", (("item", ()),)),) * 2
    NUMBERS = [0, 1, 0, 1]

    def told(self, start, numbers, made=LISTS, grove=GROVE):
        kept = list(numbers)
        told = walks(made, grove, (start, numbers))
        self.assertIs(told, leads(made, grove, (start, numbers)))
        self.assertEqual(numbers, kept)
        return told

    def test_leads_through(self):
        self.assertIs(self.told(0, self.NUMBERS), True)
        self.assertIs(self.told(0, [], LISTS, ()), True)

    def test_a_number_more_or_less(self):
        for numbers in [self.NUMBERS + [0], self.NUMBERS + [1], [0] + self.NUMBERS, self.NUMBERS[:-1],
                        self.NUMBERS[1:], [], self.NUMBERS * 2, self.NUMBERS[:2]]:
            self.assertIs(self.told(0, numbers), False)
        self.assertIs(self.told(0, [0], LISTS, ()), False)
        self.assertIs(self.told(0, [-1], LISTS, ()), False)

    def test_another_rules_number(self):
        for place in range(4):
            numbers = list(self.NUMBERS)
            numbers[place] = 1 - numbers[place]
            self.assertIs(self.told(0, numbers), False)

    def test_below_nought_and_past_the_rules(self):
        # -2 and -1 would be the right rules if they were counted from behind.
        for place in range(4):
            for wrong in [self.NUMBERS[place] - 2, -1, -2, 2, 3, 64, 400, 10 ** 59, -10 ** 59]:
                numbers = list(self.NUMBERS)
                numbers[place] = wrong
                self.assertIs(self.told(0, numbers), False)

    def test_another_start(self):
        for start in [1, 2, 3, -1, -3, 10 ** 59, -10 ** 59]:
            self.assertIs(self.told(start, self.NUMBERS), False)
            self.assertIs(self.told(start, [], LISTS, ()), False)

    def test_a_start_that_is_a_kind_but_none_of_the_forms(self):
        self.assertIs(self.told(2, [], LISTS, ()), False)
        self.assertIs(self.told(1, [1], LISTS, (("item", ()),)), False)

    def test_one_must_be_at_an_end(self):
        made = form(3, [0], [2], [(0, "a", 0, 2), (0, "a", 2, 0), (0, "a", 2, 2)])
        self.assertIs(self.told(0, [0], made, flat(1)), False)
        self.assertIs(self.told(0, [1], made, flat(1)), False)
        self.assertIs(self.told(0, [2], made, flat(1)), True)
        self.assertIs(self.told(0, [], made, ()), False)

    def test_no_rules_at_all(self):
        self.assertIs(self.told(0, [0], form(1, [0], [0], []), flat(1)), False)
        self.assertIs(self.told(0, [], form(0, [], [], []), ()), False)

    def test_all_short_runs(self):
        chance = random.Random(7)
        groves = groves_up_to(2, ["a", "b"])
        for _ in range(40):
            made = form(*random_parts(chance, 3, ["a", "b"], 5))
            span = range(-1, len(made[3]) + 1)
            lists = [[]] + [[one] for one in span] + [[one, other] for one in span for other in span]
            for grove in groves:
                for start in range(-1, made[0] + 1):
                    for numbers in lists:
                        self.told(start, numbers, made, grove)

    def test_at_the_bounds(self):
        grove = bounds()
        start, numbers = run_of(ANYTHING, grove)
        self.assertIs(self.told(start, numbers, ANYTHING, grove), True)
        for place in [0, 150, 299]:
            wrong = list(numbers)
            wrong[place] = -wrong[place] - 1
            self.assertIs(self.told(start, wrong, ANYTHING, grove), False)


if __name__ == "__main__":
    unittest.main()
