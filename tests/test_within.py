import random
import unittest

from formgrove.errors import TooBig, TooMany
from formgrove.forms import form
from formgrove.joins import common, everything, join, then
from formgrove.measures import Kinds, Others
from formgrove.runs import fits
from formgrove.tables import chosen, holds, table
from formgrove.within import less, parting, within
from samples import fitting, flat, groves_up_to, lively_form, of_count, spelled, tag_names

# One tree `list` or more, each with one `item` or more within.
LISTS = form(4, [0], [2], [(0, "list", 1, 0), (0, "list", 1, 2), (1, "item", 2, 3), (1, "item", 2, 2), (3, "item", 2, 2),
                           (3, "item", 2, 3)])
LIST = (("list", flat(1, "item")),)
NO_GROVE = [form(0, [], [], []), form(1, [], [0], [(0, "a", 0, 0)]), form(1, [0], [], [(0, "a", 0, 0)])]
BIG = of_count(301)[0]
MANY = everything(["a"] + tag_names(299))
GROVES = groves_up_to(4, ["a", "b"])


def key(grove):
    return (len(spelled(grove)), spelled(grove))


def without(made, rule):
    return form(made[0], made[1], made[2], [each for each in made[3] if each != rule])


class Within(unittest.TestCase):
    def test_ordinary(self):
        wide = everything(["list", "item"])
        self.assertEqual(within(LISTS, wide), ("within", table(LISTS, Kinds(wide))))
        self.assertEqual(within(wide, LISTS), ("not", ()))
        self.assertEqual(within(LISTS, LISTS), ("within", table(LISTS, Kinds(LISTS))))
        self.assertEqual(within(LISTS, everything(["list"])), ("not", LIST))

    def test_alike_but_for_one_rule(self):
        for rule, grove in [((0, "list", 1, 0), LIST + LIST), ((0, "list", 1, 2), LIST),
                            ((1, "item", 2, 2), LIST), ((1, "item", 2, 3), (("list", flat(2, "item")),)),
                            ((3, "item", 2, 3), (("list", flat(3, "item")),))]:
            self.assertEqual(within(LISTS, without(LISTS, rule)), ("not", grove))
            self.assertEqual(within(without(LISTS, rule), LISTS)[0], "within")

    def test_alike_but_for_one_start(self):
        more = form(4, [0, 1], [2], LISTS[3])
        self.assertEqual(within(more, LISTS), ("not", flat(1, "item")))
        self.assertEqual(within(LISTS, more)[0], "within")

    def test_alike_but_for_one_end(self):
        more = form(4, [0], [1, 2], LISTS[3])
        self.assertEqual(within(more, LISTS), ("not", flat(1, "list")))
        self.assertEqual(within(LISTS, more)[0], "within")

    def test_of_no_groves_at_all(self):
        for nothing in NO_GROVE:
            self.assertEqual(within(nothing, LISTS), ("within", table(nothing, Kinds(LISTS))))
            self.assertEqual(within(LISTS, nothing), ("not", LIST))
            for other in NO_GROVE:
                self.assertEqual(within(nothing, other)[0], "within")
        self.assertEqual(within(form(0, [], [], []), LISTS), ("within", []))

    def test_the_list_is_closed_and_shows_it(self):
        chance = random.Random(29)
        seen = set()
        for _ in range(100):
            one = lively_form(chance, 3, ["a", "b"], 8)
            other = lively_form(chance, 3, ["a", "b"], 12)
            told = within(one, other)
            seen.add(told[0])
            ones = fitting(one, GROVES)
            missed = sorted([grove for grove in ones if not fits(other, grove)], key=key)
            if told[0] == "within":
                self.assertEqual(missed, [])
                self.assertTrue(holds(one, Kinds(other), told[1]))
                self.assertTrue(all(set(value) & set(other[1]) for kind, value, grove in told[1] if kind in one[1]))
            else:
                self.assertTrue(fits(one, told[1]) and not fits(other, told[1]))
                if missed:
                    self.assertEqual(told[1], missed[0])
        self.assertEqual(seen, {"within", "not"})

    def test_the_least_of_all_starts(self):
        one = form(4, [1, 2, 3], [0], [(1, "b", 0, 0), (2, "a", 0, 0), (3, "a", 2, 0)])
        self.assertEqual(within(one, form(1, [0], [], [])), ("not", flat(1)))
        self.assertEqual(within(one, form(2, [0], [1], [(0, "a", 1, 1)])), ("not", flat(1, "b")))

    def test_what_is_told_is_the_askers_own(self):
        within(LISTS, LISTS)[1].clear()
        self.assertEqual(within(LISTS, LISTS), ("within", table(LISTS, Kinds(LISTS))))


class Less(unittest.TestCase):
    def test_just_as_told(self):
        chance = random.Random(30)
        for _ in range(30):
            one = lively_form(chance, 3, ["a", "b"], 8)
            other = lively_form(chance, 3, ["a", "b"], 8)
            made = less(one, other)
            self.assertEqual(made, chosen(one, Others(other)))
            for grove in GROVES:
                self.assertEqual(fits(made, grove), fits(one, grove) and not fits(other, grove))

    def test_ordinary(self):
        one = everything(["a"])
        self.assertEqual(less(one, form(1, [0], [0], [])), form(2, [0], [1], [
            (0, "a", 0, 0), (0, "a", 0, 1), (0, "a", 1, 0), (0, "a", 1, 1)]))
        self.assertEqual(less(one, one), form(1, [], [0], [(0, "a", 0, 0)]))

    def test_of_no_groves_at_all(self):
        for nothing in NO_GROVE:
            self.assertEqual(parting(less(LISTS, nothing), LISTS), None)
            self.assertEqual(parting(less(nothing, LISTS), nothing), None)

    def test_too_many_rules(self):
        # Two tuples of the one kind, and so four steps for each tag.
        for count, good in [(100, True), (101, False)]:
            one = everything(tag_names(count))
            other = form(1, [0], [0], [])
            if good:
                self.assertEqual(len(less(one, other)[3]), 400)
            else:
                self.assertEqual(within(one, other), ("not", flat(1, "aa")))
                with self.assertRaises(TooMany):
                    less(one, other)


class Parting(unittest.TestCase):
    def test_the_same_groves(self):
        self.assertIsNone(parting(LISTS, LISTS))
        self.assertIsNone(parting(LISTS, join(LISTS, LISTS)))
        self.assertIsNone(parting(common(LISTS, LISTS), LISTS))
        self.assertIsNone(parting(then(LISTS, form(1, [0], [0], [])), LISTS))

    def test_either_way_round(self):
        narrow = without(LISTS, (0, "list", 1, 0))
        self.assertEqual(parting(LISTS, narrow), LIST + LIST)
        self.assertEqual(parting(narrow, LISTS), LIST + LIST)

    def test_the_least_of_both(self):
        one = form(2, [0], [1], [(0, "a", 1, 1), (0, "b", 1, 1)])
        other = form(2, [0], [1], [(0, "a", 1, 1), (0, "c", 1, 1)])
        self.assertEqual(parting(one, other), flat(1, "b"))
        self.assertEqual(parting(other, one), flat(1, "b"))

    def test_of_no_groves_at_all(self):
        for nothing in NO_GROVE:
            self.assertEqual(parting(nothing, LISTS), LIST)
            self.assertEqual(parting(LISTS, nothing), LIST)
            for other in NO_GROVE:
                self.assertIsNone(parting(nothing, other))

    def test_against_all_small_groves(self):
        chance = random.Random(31)
        for _ in range(60):
            one = lively_form(chance, 3, ["a", "b"], 8)
            other = lively_form(chance, 3, ["a", "b"], 8)
            told = parting(one, other)
            found = sorted([grove for grove in GROVES if fits(one, grove) != fits(other, grove)], key=key)
            if found:
                self.assertEqual(told, found[0])
            elif told is not None:
                self.assertGreater(len(spelled(told)), 8)
                self.assertNotEqual(fits(one, told), fits(other, told))


class Refused(unittest.TestCase):
    def refused(self, error, ask, one, other):
        with self.assertRaises(error):
            ask(one, other)

    def test_where_the_table_is(self):
        for ask in [within, less]:
            self.refused(TooBig, ask, BIG, LISTS)
            self.refused(TooBig, ask, BIG, MANY)
            self.refused(TooMany, ask, MANY, BIG)
        self.assertEqual(within(LISTS, BIG), ("not", LIST))
        self.assertEqual(within(of_count(300)[0], everything(["a"]))[0], "within")

    def test_the_table_is_made_whole_ahead(self):
        # A grove that fits the one alone is found at once, and yet it is refused.
        one = form(BIG[0] + 1, [BIG[0], BIG[1][0]], list(BIG[2]) + [BIG[0]], BIG[3])
        self.refused(TooBig, within, one, form(1, [0], [], []))
        # A kind to which no start comes is made too.
        lonely = form(BIG[0], [0], BIG[2], BIG[3])
        self.refused(TooBig, within, lonely, everything(["a"]))

    def test_parting_by_the_first_or_the_second_table(self):
        self.refused(TooBig, parting, BIG, MANY)
        self.refused(TooMany, parting, MANY, BIG)
        self.refused(TooBig, parting, BIG, LISTS)
        self.refused(TooBig, parting, LISTS, BIG)
        self.assertEqual(within(LISTS, MANY), ("not", LIST))
        self.refused(TooMany, parting, of_count(3)[0], MANY)


if __name__ == "__main__":
    unittest.main()
