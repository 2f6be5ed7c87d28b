import random
import unittest

from formgrove.books import read
from formgrove.build import form_of
from formgrove.errors import TooMany
from formgrove.forms import form
from formgrove.runs import fits
from formgrove.settings import parted
from formgrove.sorts import firsts, sort_of, sorts
from formgrove.words import grove_of
from samples import groves_up_to, lively_form, of_count, spelled

GROVES = groves_up_to(3, ["a", "b"])


class Parted(unittest.TestCase):
    def tried(self, made, groves):
        """Look at the setting for each two sorts, on some groves of both; tells how many sorts there are."""
        known = sorts(made)
        by_sort = {}
        for grove in firsts(known) + groves:
            by_sort.setdefault(sort_of(known, grove), []).append(grove)
        for one in range(known[0]):
            for other in range(known[0]):
                if one == other:
                    continue
                setting = parted(known, one, other)
                self.assertIs(type(setting), tuple)
                ahead, behind = setting
                self.assertIs(type(ahead), list)
                self.assertIs(type(behind), list)
                self.assertTrue(behind == [] or behind[0] == "/")
                told = {number: {fits(made, grove_of(ahead + spelled(grove) + behind)) for grove in by_sort[number]}
                        for number in [one, other]}
                self.assertIn((told[one], told[other]), [({True}, {False}), ({False}, {True})])
        return known[0]

    def test_ordinary(self):
        for text in ["A = a", "A = a*", "A = a b", "A = a(b) | b(a)", "A = a(b(a))", "A = {a | b(A)}*", "A = a a a b",
                     "A = a(b a) b(a b)", "A = {a a b}*", "A = a(a(a(b | {}) b))"]:
            self.tried(form_of(read(text)), GROVES)

    def test_no_words_are_needed(self):
        known = sorts(form_of(read("A = a")))
        self.assertEqual(parted(known, 0, 1), ([], []))

    def test_round_and_ahead(self):
        # Only what stands ahead parts `{}` from `b` here, only what stands round it `{}` from `c`.
        made = form_of(read("A = a b | a | d(c)"))
        self.assertEqual(self.tried(made, GROVES), 4)

    def test_many_forms(self):
        chance = random.Random(38)
        counts = set()
        for _ in range(60):
            made = lively_form(chance, 4, ["a", "b"], 8)
            try:
                counts.add(self.tried(made, GROVES))
            except TooMany:
                continue
        self.assertGreater(max(counts), 5)

    def test_24_sorts(self):
        row = form(24, [23], [0], [(kind, "a", 0, kind - 1) for kind in range(1, 24)])
        self.assertEqual(self.tried(row, []), 24)
        deep = form(24, [23], [0], [(kind, "a", kind - 1, 0) for kind in range(1, 24)])
        self.assertEqual(self.tried(deep, []), 24)
        mixed = form(24, [23], [0], [(kind, "ab"[kind % 2], kind - 1, kind // 2) for kind in range(1, 16)]
                     + [(kind, "c", 0, kind - 1) for kind in range(16, 24)])
        self.assertEqual(self.tried(mixed, []), 24)

    def test_great_groves(self):
        self.assertGreater(self.tried(of_count(300)[0], []), 12)

    def test_what_is_told_is_the_askers_own(self):
        known = sorts(form_of(read("A = a(b)")))
        told = parted(known, 0, 1)
        kept = (list(told[0]), list(told[1]))
        told[0].append("x")
        told[1].append("x")
        self.assertEqual(parted(known, 0, 1), kept)


if __name__ == "__main__":
    unittest.main()
