import random
import unittest

from formgrove.changers import changed, changer
from formgrove.effects import Effects
from formgrove.errors import TooBig, TooMany
from formgrove.forms import form
from formgrove.joins import everything
from formgrove.runs import fits
from formgrove.safety import asked_back, safe
from formgrove.tables import chosen, holds, table
from formgrove.within import within
from samples import (become, fitting, flat, groves_up_to, is_of, lively_form, nested, of_count, random_changer,
                     spelled, tag_names)

KIDS = ("kids", 0)
SAME = (1, ())
NO_GROVE = [form(0, [], [], []), form(1, [], [0], [(0, "a", 0, 0)]), form(1, [0], [], [(0, "a", 0, 0)])]
# One tree `list` or more, each with one `item` or more within.
LISTS = form(4, [0], [2], [(0, "list", 1, 0), (0, "list", 1, 2), (1, "item", 2, 3), (1, "item", 2, 2),
                           (3, "item", 2, 2), (3, "item", 2, 3)])
# One tree `row` or more, with nothing within.
ROWS = form(2, [0], [1], [(0, "row", 1, 0), (0, "row", 1, 1)])
BIG = of_count(301)[0]
MANY = everything(["a"] + tag_names(299))
GROVES = groves_up_to(4, ["a", "b"])


def key(grove):
    return (len(spelled(grove)), spelled(grove))


class Safe(unittest.TestCase):
    def test_ordinary(self):
        made = changer(1, [(0, "list", (KIDS,)), (0, "item", (("tag", "row", (KIDS,)),))])
        self.assertEqual(safe(made, LISTS, ROWS), ("safe", table(LISTS, Effects(made, ROWS))))
        self.assertTrue(holds(LISTS, Effects(made, ROWS), safe(made, LISTS, ROWS)[1]))
        # Where an item goes, nothing may be left.
        gone = changer(1, [(0, "list", (KIDS,)), (0, "item", ())])
        self.assertEqual(safe(gone, LISTS, ROWS), ("unsafe", (("list", flat(1, "item")),)))
        # Two lists are needed, or two items.
        single = form(2, [0], [1], [(0, "row", 1, 1)])
        self.assertEqual(safe(made, LISTS, single), ("unsafe", (("list", flat(2, "item")),)))
        headed = changer(1, [(0, "list", (("tag", "row", ()),))])
        self.assertEqual(safe(headed, LISTS, single), ("unsafe", (("list", flat(1, "item")),) * 2))

    def test_of_no_groves_at_all(self):
        for nothing in NO_GROVE:
            told = safe(SAME, nothing, LISTS)
            self.assertEqual(told, ("safe", table(nothing, Effects(SAME, LISTS))))
            self.assertEqual(safe(SAME, LISTS, nothing), ("unsafe", (("list", flat(1, "item")),)))
        self.assertEqual(safe(SAME, form(0, [], [], []), LISTS), ("safe", []))

    def test_a_changer_without_rules_is_as_within(self):
        chance = random.Random(45)
        for _ in range(40):
            one = lively_form(chance, 3, ["a", "b"], 8)
            other = lively_form(chance, 3, ["a", "b"], 10)
            told = within(one, other)
            for modes in [1, 3]:
                try:
                    asked = safe((modes, ()), one, other)
                except TooMany:
                    continue
                self.assertEqual(asked[0], "safe" if told[0] == "within" else "unsafe")
                if told[0] == "not":
                    self.assertEqual(asked[1], told[1])

    def test_against_all_small_groves(self):
        chance = random.Random(46)
        seen = {"safe": 0, "unsafe": 0}
        for _ in range(160):
            made = random_changer(chance, chance.randrange(1, 5), ["a", "b"], 2)
            one = lively_form(chance, 3, ["a", "b"], 6)
            other = chance.choice([everything(["a", "b"]), lively_form(chance, 3, ["a", "b"], 14)])
            try:
                told = safe(made, one, other)
            except TooMany:
                continue
            seen[told[0]] += 1
            small = [grove for grove in fitting(one, GROVES) if len(spelled(become(made, grove))) <= 30]
            spoiled = sorted([grove for grove in small if not fits(other, become(made, grove))], key=key)
            if told[0] == "safe":
                self.assertEqual(spoiled, [])
                self.assertTrue(holds(one, Effects(made, other), told[1]))
                self.assertEqual(told[1], table(one, Effects(made, other)))
            else:
                self.assertTrue(fits(one, told[1]))
                self.assertFalse(fits(other, become(made, told[1])))
                if spoiled:
                    self.assertLessEqual(key(told[1]), key(spoiled[0]))
                if len(spelled(told[1])) <= 8:
                    self.assertIn(told[1], fitting(one, GROVES))
        self.assertGreater(min(seen.values()), 20)

    def test_the_least_of_all_that_are_spoiled(self):
        chance = random.Random(47)
        found = set()
        for _ in range(120):
            made = random_changer(chance, chance.randrange(1, 3), ["a", "b"], 2)
            one = lively_form(chance, 3, ["a", "b"], 7)
            other = lively_form(chance, 2, ["a", "b"], 8)
            spoiled = [grove for grove in GROVES if any(is_of(one, start, grove) for start in one[1])
                       and len(spelled(become(made, grove))) <= 40
                       and not any(is_of(other, start, become(made, grove)) for start in other[1])]
            if spoiled:
                try:
                    told = safe(made, one, other)
                except TooMany:
                    continue
                self.assertEqual(told, ("unsafe", min(spoiled, key=key)))
                found.add(len(spelled(told[1])) // 2)
        self.assertLessEqual({0, 1, 2, 3}, found)

    def test_groves_that_become_too_big_are_safe_too(self):
        double = changer(1, [(0, "a", (KIDS, KIDS, ("tag", "b", ())))])
        self.assertEqual(safe(double, everything(["a"]), everything(["b"]))[0], "safe")
        with self.assertRaises(TooBig):
            changed(double, nested(60))
        # Of a tree of n levels there come 2 ** n - 1; by three that is none just where n is even.
        counted = form(4, [1, 2], [0, 1, 2, 3], [(kind, "b", 3, (kind + 1) % 3) for kind in range(3)])
        towers = form(2, [0], [1], [(0, "a", 0, 1), (0, "a", 1, 1)])
        self.assertEqual(safe(double, towers, counted)[0], "safe")
        even = form(4, [0], [0, 3], counted[3])
        self.assertEqual(safe(double, towers, even), ("unsafe", flat(1)))

    def test_only_mode_0_counts(self):
        made = changer(2, [(1, "a", ())])
        self.assertEqual(safe(made, everything(["a"]), everything(["a"]))[0], "safe")
        inner = changer(2, [(0, "a", (("tag", "a", (("kids", 1),)),)), (1, "a", (("tag", "b", ()),))])
        self.assertEqual(safe(inner, everything(["a"]), everything(["a"])), ("unsafe", nested(2)))

    def test_what_is_told_is_the_askers_own(self):
        safe(SAME, LISTS, LISTS)[1].clear()
        self.assertEqual(safe(SAME, LISTS, LISTS), ("safe", table(LISTS, Effects(SAME, LISTS))))


class AskedBack(unittest.TestCase):
    def test_just_as_told(self):
        chance = random.Random(48)
        checked = 0
        for _ in range(60):
            made = random_changer(chance, chance.randrange(1, 3), ["a", "b"], 2)
            one = lively_form(chance, 3, ["a", "b"], 6)
            other = lively_form(chance, 3, ["a", "b"], 12)
            try:
                back = asked_back(made, one, other)
            except TooMany:
                continue
            self.assertEqual(back, chosen(one, Effects(made, other)))
            for grove in GROVES[:120]:
                come = become(made, grove)
                if len(spelled(come)) <= 24:
                    self.assertEqual(fits(back, grove), fits(one, grove) and fits(other, come))
                    checked += fits(back, grove)
        self.assertGreater(checked, 100)

    def test_ordinary(self):
        self.assertEqual(asked_back(changer(1, [(0, "a", ())]), everything(["a"]), form(1, [0], [0], [])),
                         everything(["a"]))
        gone = changer(1, [(0, "a", (KIDS,))])
        back = asked_back(gone, everything(["a", "b"]), form(2, [0], [1], [(0, "b", 1, 1)]))
        for grove in GROVES:
            self.assertEqual(fits(back, grove), spelled(grove).count("b") == 1)

    def test_of_no_groves_at_all(self):
        for nothing in NO_GROVE:
            self.assertEqual(fitting(asked_back(SAME, LISTS, nothing), GROVES), [])
            self.assertEqual(fitting(asked_back(SAME, nothing, everything(["a"])), GROVES), [])

    def test_too_many_rules(self):
        # Two tuples of the one kind, and so four steps for each tag.
        gone = changer(1, [(0, "aa", (("tag", "x", ()),))])
        for count, good in [(100, True), (101, False)]:
            one = everything(tag_names(count))
            other = form(1, [0], [0], [])
            self.assertEqual(safe(gone, one, other), ("unsafe", flat(1, "aa")))
            if good:
                self.assertEqual(len(asked_back(gone, one, other)[3]), 400)
            else:
                with self.assertRaises(TooMany):
                    asked_back(gone, one, other)


class Refused(unittest.TestCase):
    def refused(self, error, made, one, other):
        for ask in [safe, asked_back]:
            with self.assertRaises(error):
                ask(made, one, other)

    def test_too_big(self):
        self.refused(TooBig, SAME, BIG, LISTS)
        self.refused(TooBig, changer(1, [(0, "a", ())]), BIG, everything([]))
        self.assertEqual(safe(SAME, of_count(300)[0], everything(["a"]))[0], "safe")

    def test_too_many(self):
        # The trees are counted by eleven in the one mode and by seven in the other: 77 values and more.
        rows = form(12, [0], [11], [(kind, "b", 11, (kind + 1) % 11) for kind in range(11)])
        more = form(12, [0], [11], [(kind, "c", 11, (kind + 1) % 7) for kind in range(7)])
        both = changer(2, [(0, "a", (("tag", "b", ()), KIDS)), (1, "a", (("tag", "b", ()),) * 2 + (("kids", 1),))])
        self.assertEqual(safe(both, everything(["a"]), rows)[0], "unsafe")
        two = changer(2, [(0, "a", (("tag", "b", ()),)), (1, "a", (("tag", "c", ()),))])
        join = form(12, [0], [11], rows[3] + more[3])
        self.refused(TooMany, two, everything(["a"]), join)

    def test_too_many_steps(self):
        made = changer(1, [(0, "aa", (("tag", "x", ()),))])
        # Four steps for each of 400 tags, and not more: the table is told.
        self.assertEqual(safe(made, everything(tag_names(400)), form(1, [0], [0], []))[0], "unsafe")
        rows = form(12, [0], [11], [(kind, "b", 11, (kind + 1) % 11) for kind in range(11)])
        counted = changer(1, [(0, tag, (("tag", "b", ()),)) for tag in tag_names(34)])
        # Eleven counts: () and rows of one to eleven trees, so 144 steps for each tag, or fewer.
        self.refused(TooMany, counted, everything(tag_names(34)), rows)
        self.assertEqual(safe(counted, everything(tag_names(27)), rows)[0], "unsafe")

    def test_the_table_is_made_whole_ahead(self):
        # A grove that is spoiled is found at once, and yet it is refused.
        one = form(BIG[0] + 1, [BIG[0], BIG[1][0]], list(BIG[2]) + [BIG[0]], BIG[3])
        self.refused(TooBig, SAME, one, form(1, [0], [], []))
        lonely = form(BIG[0], [0], BIG[2], BIG[3])
        self.refused(TooBig, SAME, lonely, everything(["a"]))

    def test_too_many_comes_first(self):
        self.refused(TooBig, SAME, BIG, everything(["a"]))
        self.assertEqual(safe(SAME, MANY, everything(["a"]))[0], "unsafe")
        beside = form(BIG[0] + 1, [0], list(BIG[2]) + [BIG[0]],
                      BIG[3] + tuple((BIG[0], tag, BIG[0], BIG[0]) for tag in tag_names(34)))
        rows = form(12, [0], [11], [(kind, "b", 11, (kind + 1) % 11) for kind in range(11)])
        counted = changer(1, [(0, tag, (("tag", "b", ()),)) for tag in tag_names(34)])
        self.refused(TooMany, counted, beside, rows)


if __name__ == "__main__":
    unittest.main()
