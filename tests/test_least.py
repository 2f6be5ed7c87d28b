import random
import unittest

from formgrove.errors import TooBig
from formgrove.forms import form
from formgrove.least import fewest, least, least_of
from samples import flat, full, groves_up_to, is_of, nested, of_count, random_parts, spelled

# Kind k has the one grove of 2**k - 1 tags: a tag with one of the kind below within, and one behind.
DOUBLES = form(64, [63], [0], [(kind, "a", kind - 1, kind - 1) for kind in range(1, 64)])


def key(grove):
    words = spelled(grove)
    return (len(words), words)


class Fewest(unittest.TestCase):
    def test_no_kinds(self):
        self.assertEqual(fewest(form(0, [], [], [])), [])
        self.assertEqual(least(form(0, [], [], [])), [])

    def test_ordinary(self):
        made = form(4, [1], [0], [(1, "a", 0, 0), (2, "a", 1, 1), (2, "a", 2, 0), (3, "a", 3, 0)])
        self.assertEqual(fewest(made), [0, 1, 3, None])

    def test_an_end_has_none(self):
        self.assertEqual(fewest(form(1, [0], [0], [(0, "a", 0, 0)])), [0])

    def test_a_better_way_found_late(self):
        # Kind 2's way by 1 is found in the first round, the shorter one by 3 behind it.
        made = form(5, [2], [0], [(1, "a", 4, 4), (2, "a", 1, 1), (2, "b", 3, 3), (3, "a", 0, 0), (4, "a", 3, 3)])
        self.assertEqual(fewest(made), [0, 7, 3, 1, 3])

    def test_numbers_of_many_figures(self):
        self.assertEqual(fewest(DOUBLES), [2 ** kind - 1 for kind in range(64)])
        falling = form(64, [0], [63], [(kind, "a", kind + 1, kind + 1) for kind in range(63)])
        self.assertEqual(fewest(falling), [2 ** (63 - kind) - 1 for kind in range(64)])

    def test_a_small_way_beside_a_great_one(self):
        made = form(64, [63], [0], list(DOUBLES[3]) + [(63, "z", 2, 0)])
        self.assertEqual(fewest(made)[62:], [2 ** 62 - 1, 4])
        self.assertEqual(least(made)[63], (("z", full(2)),))

    def test_what_is_told_is_the_askers_own(self):
        made = form(2, [1], [0], [(1, "a", 0, 0)])
        fewest(made).clear()
        least(made)[0] = None
        self.assertEqual(fewest(made), [0, 1])
        self.assertEqual(least(made), [(), flat(1)])


class Least(unittest.TestCase):
    def test_ordinary(self):
        made = form(3, [1], [0], [(1, "b", 0, 0), (1, "ab", 0, 0), (2, "z", 1, 0), (2, "a", 1, 1)])
        self.assertEqual(least(made), [(), flat(1, "ab"), (("z", flat(1, "ab")),)])

    def test_no_grove(self):
        self.assertEqual(least(form(1, [0], [], [(0, "a", 0, 0)])), [None])

    def test_the_words_decide_among_as_few(self):
        # Kind 1: one tag; kind 2: two of them, beside or within one another.
        beside = (2, "a", 0, 1)
        inside = (2, "a", 1, 0)
        self.assertEqual(least(form(3, [2], [0], [(1, "a", 0, 0), beside, inside]))[2], flat(2))
        self.assertEqual(least(form(3, [2], [0], [(1, "a", 0, 0), inside]))[2], nested(2))
        later = form(4, [2], [0], [(1, "a", 0, 0), (3, "b", 0, 0), (2, "a", 3, 0), (2, "a", 1, 0)])
        self.assertEqual(least(later)[2], nested(2))

    def test_at_300_and_301(self):
        for count in [0, 1, 255, 299, 300]:
            made, grove = of_count(count)
            self.assertEqual(fewest(made)[made[1][0]], count)
            self.assertEqual(least(made)[made[1][0]], grove)
            self.assertEqual(least_of(made), grove)
        for count in [301, 302, 511]:
            made, grove = of_count(count)
            self.assertEqual(fewest(made)[made[1][0]], count)
            self.assertIsNone(least(made)[made[1][0]])
            with self.assertRaises(TooBig):
                least_of(made)

    def test_far_greater(self):
        told = least(DOUBLES)
        self.assertEqual(told[:9], [full(level) for level in range(9)])
        self.assertEqual(told[9:], [None] * 55)
        with self.assertRaises(TooBig):
            least_of(DOUBLES)

    def test_many_kinds_that_look_alike(self):
        rules = [(kind, tag, kind - 1, 0) for kind in range(1, 64) for tag in ["a", "b"]]
        rules += [(kind, tag, 0, kind - 1) for kind in range(1, 64) for tag in ["a", "b"]]
        told = least(form(64, [63], [0], rules))
        self.assertEqual(told, [flat(count) for count in range(64)])

    def test_as_deep_as_kinds_let_it_be(self):
        made = form(64, [63], [0], [(kind, "a", kind - 1, 0) for kind in range(1, 64)])
        self.assertEqual(least_of(made), nested(63))

    def test_against_all_small_groves(self):
        chance = random.Random(8)
        groves = sorted(groves_up_to(5, ["a", "b"]), key=key)
        for _ in range(60):
            made = form(*random_parts(chance, 4, ["a", "b"], 8))
            counts = fewest(made)
            told = least(made)
            for kind in range(made[0]):
                found = next((grove for grove in groves if is_of(made, kind, grove)), None)
                if found is None:
                    self.assertTrue(counts[kind] is None or counts[kind] > 5)
                else:
                    self.assertEqual((counts[kind], told[kind]), (len(spelled(found)) // 2, found))
                self.assertEqual(told[kind] is None, counts[kind] is None)


class LeastOf(unittest.TestCase):
    def test_none_fits(self):
        for made in [form(0, [], [], []), form(1, [], [0], []), form(1, [0], [], []),
                     form(2, [1], [0], [(1, "a", 1, 0)])]:
            self.assertIsNone(least_of(made))

    def test_the_least_of_all_starts(self):
        rules = [(1, "b", 0, 0), (2, "a", 0, 0), (3, "a", 2, 0), (4, "a", 4, 4)]
        self.assertEqual(least_of(form(5, [1, 2, 3], [0], rules)), flat(1, "a"))
        self.assertEqual(least_of(form(5, [1, 3], [0], rules)), flat(1, "b"))
        self.assertEqual(least_of(form(5, [3, 4], [0], rules)), nested(2))
        self.assertEqual(least_of(form(5, [0, 1, 2, 3], [0], rules)), ())

    def test_a_small_start_beside_too_great_ones(self):
        made = form(64, [3, 20, 63], [0], list(DOUBLES[3]))
        self.assertEqual(least_of(made), full(3))
        with self.assertRaises(TooBig):
            least_of(form(64, [20, 63], [0], list(DOUBLES[3])))

    def test_too_great_beside_none(self):
        rules = [rule for rule in DOUBLES[3] if rule[0] < 63]
        with self.assertRaises(TooBig):
            least_of(form(64, [62, 63], [0], rules))
        self.assertIsNone(least_of(form(64, [63], [0], rules)))


if __name__ == "__main__":
    unittest.main()
