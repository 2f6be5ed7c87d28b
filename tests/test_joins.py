import random
import unittest

from formgrove.errors import BadForm, TooMany
from formgrove.forms import form
from formgrove.joins import again, common, everything, inside, join, then
from formgrove.runs import fits
from samples import fitting, groves_up_to, random_parts, spelled, tag_names

NOTHING = form(0, [], [], [])
EMPTY = form(1, [0], [0], [])
# Kind 0 begins, kind 2 ends; kind 1 is within.
ONE = form(3, [0], [1, 2], [(0, "a", 1, 2), (1, "b", 1, 1)])
OTHER = form(2, [0, 1], [1], [(0, "c", 1, 1), (1, "a", 0, 1)])
BAD_TAGS = ["", "A", "a b", "abcdefghi", "/", "a1"]
GROVES = groves_up_to(4, ["a", "b"])


def kinds(count):
    """A form of so many kinds, of which none matters."""
    return form(count, [0], [0], [])


def rules(count, start=0):
    """A form of two kinds with so many rules, all of kind 0."""
    return form(2, [start], [], [(0, tag, 0, 0) for tag in tag_names(count)])


class Told(unittest.TestCase):
    """The kinds, starts, ends and rules just as the document tells them."""

    def test_join(self):
        self.assertEqual(join(ONE, OTHER), form(5, [0, 3, 4], [1, 2, 4], [
            (0, "a", 1, 2), (1, "b", 1, 1), (3, "c", 4, 4), (4, "a", 3, 4)]))
        self.assertEqual(join(OTHER, ONE), form(5, [0, 1, 2], [1, 3, 4], [
            (0, "c", 1, 1), (1, "a", 0, 1), (2, "a", 3, 4), (3, "b", 3, 3)]))

    def test_then(self):
        self.assertEqual(then(ONE, OTHER), form(8, [3], [1, 2, 4, 5, 7], [
            (0, "a", 1, 2), (1, "b", 1, 1),
            (3, "a", 1, 5), (4, "b", 1, 4),
            (6, "c", 7, 7), (7, "a", 6, 7),
            (4, "c", 7, 7), (4, "a", 6, 7), (5, "c", 7, 7), (5, "a", 6, 7)]))

    def test_then_of_an_other_without_the_grove_without_tags(self):
        other = form(2, [0], [1], [(0, "c", 1, 1), (1, "d", 1, 1)])
        self.assertEqual(then(ONE, other), form(8, [3], [1, 2, 7], [
            (0, "a", 1, 2), (1, "b", 1, 1),
            (3, "a", 1, 5), (4, "b", 1, 4),
            (6, "c", 7, 7), (7, "d", 7, 7),
            (4, "c", 7, 7), (5, "c", 7, 7)]))

    def test_again(self):
        self.assertEqual(again(ONE), form(7, [6], [1, 2, 4, 5, 6], [
            (0, "a", 1, 2), (1, "b", 1, 1),
            (3, "a", 1, 5), (4, "b", 1, 4),
            (6, "a", 1, 5), (4, "a", 1, 5), (5, "a", 1, 5)]))

    def test_inside(self):
        self.assertEqual(inside("x", OTHER), form(4, [2], [1, 3], [
            (0, "c", 1, 1), (1, "a", 0, 1), (2, "x", 0, 3), (2, "x", 1, 3)]))

    def test_common(self):
        one = form(2, [0, 1], [1], [(0, "a", 1, 0), (1, "a", 0, 1), (1, "b", 1, 1)])
        other = form(3, [2], [0, 2], [(0, "a", 1, 2), (2, "b", 0, 1), (2, "c", 0, 0)])
        self.assertEqual(common(one, other), form(6, [2, 5], [3, 5], [
            (0, "a", 4, 2), (3, "a", 1, 5), (5, "b", 3, 4)]))
        self.assertEqual(common(other, one), form(6, [4, 5], [1, 5], [
            (0, "a", 3, 4), (1, "a", 2, 5), (5, "b", 1, 3)]))

    def test_everything(self):
        self.assertEqual(everything(["b", "a", "b"]), form(1, [0], [0], [(0, "a", 0, 0), (0, "b", 0, 0)]))
        self.assertEqual(everything([]), EMPTY)

    def test_of_no_kinds(self):
        self.assertEqual(join(NOTHING, NOTHING), NOTHING)
        self.assertEqual(join(NOTHING, ONE), ONE)
        self.assertEqual(join(ONE, NOTHING), ONE)
        self.assertEqual(then(NOTHING, NOTHING), NOTHING)
        self.assertEqual(then(NOTHING, ONE), form(3, [], [1, 2], ONE[3]))
        self.assertEqual(then(ONE, NOTHING), form(6, [3], [1, 2], [
            (0, "a", 1, 2), (1, "b", 1, 1), (3, "a", 1, 5), (4, "b", 1, 4)]))
        self.assertEqual(again(NOTHING), EMPTY)
        self.assertEqual(inside("x", NOTHING), form(2, [0], [1], []))
        self.assertEqual(common(NOTHING, ONE), NOTHING)
        self.assertEqual(common(ONE, NOTHING), NOTHING)

    def test_of_one_kind(self):
        self.assertEqual(join(EMPTY, EMPTY), form(2, [0, 1], [0, 1], []))
        self.assertEqual(then(EMPTY, EMPTY), form(3, [1], [0, 1, 2], []))
        self.assertEqual(again(EMPTY), form(3, [2], [0, 1, 2], []))
        self.assertEqual(inside("x", EMPTY), form(3, [1], [0, 2], [(1, "x", 0, 2)]))
        self.assertEqual(common(EMPTY, EMPTY), EMPTY)

    def test_plainly_for_many_forms(self):
        chance = random.Random(23)
        for _ in range(200):
            one = form(*random_parts(chance, 4, ["a", "b"], 8))
            other = form(*random_parts(chance, 4, ["a", "b"], 8))
            m, n = one[0], other[0]
            self.assertEqual(then(one, other), form(
                2 * m + n, [m + s for s in one[1]],
                list(one[2]) + [2 * m + e for e in other[2]]
                + [m + e for e in one[2] for s in other[1] if s in other[2]],
                list(one[3]) + [(m + q, t, p, m + r) for q, t, p, r in one[3]]
                + [(2 * m + q, t, 2 * m + p, 2 * m + r) for q, t, p, r in other[3]]
                + [(m + e, t, 2 * m + p, 2 * m + r) for e in one[2] for q, t, p, r in other[3] if q in other[1]]))
            self.assertEqual(again(one), form(
                2 * m + 1, [2 * m], list(one[2]) + [2 * m] + [m + e for e in one[2]],
                list(one[3]) + [(m + q, t, p, m + r) for q, t, p, r in one[3]]
                + [(k, t, p, m + r) for k in [2 * m] + [m + e for e in one[2]] for q, t, p, r in one[3] if q in one[1]]))
            self.assertEqual(common(one, other), form(
                m * n, [s * n + z for s in one[1] for z in other[1]], [s * n + z for s in one[2] for z in other[2]],
                [(q * n + x, t, p * n + y, r * n + z) for q, t, p, r in one[3] for x, u, y, z in other[3] if t == u]))


class Groves(unittest.TestCase):
    """The groves that they must have, against all small ones."""

    @classmethod
    def setUpClass(cls):
        chance = random.Random(24)
        cls.pairs = []
        while len(cls.pairs) < 25:
            one = form(*random_parts(chance, 3, ["a", "b"], 8))
            other = form(*random_parts(chance, 3, ["a", "b"], 8))
            if fitting(one, GROVES) and fitting(other, GROVES):
                cls.pairs.append((one, other, set(fitting(one, GROVES)), set(fitting(other, GROVES))))

    def told(self, made, wanted):
        for grove in GROVES:
            self.assertEqual(fits(made, grove), grove in wanted, (made, grove))

    def test_join_and_common(self):
        for one, other, ones, others in self.pairs:
            self.told(join(one, other), ones | others)
            self.told(common(one, other), ones & others)

    def test_then(self):
        for one, other, ones, others in self.pairs:
            self.told(then(one, other), {left + right for left in ones for right in others})

    def test_again(self):
        for one, _, ones, _ in self.pairs:
            found = {()}
            for _ in range(4):
                found |= {left + right for left in found for right in ones if len(spelled(left + right)) <= 8}
            self.told(again(one), found)

    def test_inside(self):
        for one, _, ones, _ in self.pairs:
            self.told(inside("a", one), {(("a", within),) for within in ones})

    def test_everything(self):
        self.told(everything(["a", "b"]), set(GROVES))
        self.told(everything(["b"]), set(groves_up_to(4, ["b"])))
        self.told(everything([]), {()})


class TooManyKinds(unittest.TestCase):
    def good_and_bad(self, make, good, bad):
        self.assertEqual(make(*good)[0], 64)
        with self.assertRaises(TooMany):
            make(*bad)

    def test_64_and_65(self):
        self.good_and_bad(join, [kinds(32), kinds(32)], [kinds(32), kinds(33)])
        self.good_and_bad(join, [kinds(63), kinds(1)], [kinds(64), kinds(1)])
        self.good_and_bad(then, [kinds(31), kinds(2)], [kinds(31), kinds(3)])
        self.good_and_bad(then, [kinds(1), kinds(62)], [kinds(32), kinds(1)])
        self.good_and_bad(lambda one: inside("a", one), [kinds(62)], [kinds(63)])
        self.good_and_bad(common, [kinds(8), kinds(8)], [kinds(5), kinds(13)])
        self.good_and_bad(common, [kinds(1), kinds(64)], [kinds(64), kinds(2)])
        self.assertEqual(again(kinds(31))[0], 63)
        with self.assertRaises(TooMany):
            again(kinds(32))
        with self.assertRaises(TooMany):
            common(kinds(64), kinds(64))

    def test_no_kinds_beside_64(self):
        self.assertEqual(join(NOTHING, kinds(64)), kinds(64))
        self.assertEqual(common(NOTHING, kinds(64)), NOTHING)
        self.assertEqual(then(NOTHING, kinds(64))[0], 64)


class TooManyRules(unittest.TestCase):
    def good_and_bad(self, make, good, bad):
        self.assertEqual(len(make(*good)[3]), 400)
        with self.assertRaises(TooMany):
            make(*bad)

    def test_400_and_401(self):
        self.good_and_bad(join, [rules(200), rules(200)], [rules(200), rules(201)])
        self.good_and_bad(join, [rules(400), rules(0)], [rules(400), rules(1)])
        self.good_and_bad(then, [rules(100), rules(200)], [rules(100), rules(201)])
        self.good_and_bad(again, [rules(200, 1)], [rules(201, 1)])
        self.good_and_bad(lambda one: inside("a", one), [rules(399)], [rules(400)])
        self.good_and_bad(everything, [tag_names(400)], [tag_names(401)])
        self.good_and_bad(everything, [tag_names(400) * 2], [tag_names(401) * 2])

    def test_the_rules_of_starts_count(self):
        mixed = [(1, tag, 0, 0) for tag in tag_names(50)] + [(0, tag, 0, 0) for tag in tag_names(100)]
        self.good_and_bad(again, [form(2, [0], [], mixed)], [form(2, [0], [], mixed + [(0, "z", 0, 0)])])
        one = form(2, [0], [0, 1], [])
        other = form(3, [0], [], [(0, tag, 0, 0) for tag in tag_names(133)] + [(1, "a", 0, 0)])
        self.good_and_bad(then, [one, other], [one, form(3, [0], [], other[3] + ((2, "a", 0, 0),))])

    def test_common(self):
        twenty = form(20, [], [], [(kind, "a", 0, 0) for kind in range(20)])
        few = form(3, [], [], [(kind, "a", inner, rest) for kind in range(3) for inner in range(3)
                               for rest in range(3)][:20])
        self.good_and_bad(common, [twenty, few], [form(20, [], [], twenty[3] + ((0, "b", 0, 0),)),
                                                  form(3, [], [], few[3] + ((0, "b", 0, 0),))])
        full = form(8, [], [], [(kind, "a", inner, rest) for kind in range(8) for inner in range(8)
                                for rest in range(8)][:400])
        with self.assertRaises(TooMany):
            common(full, full)

    def test_rules_that_come_twice_count_once(self):
        made = again(everything(tag_names(133)))
        self.assertEqual(len(made[3]), 399)
        with self.assertRaises(TooMany):
            again(everything(tag_names(134)))
        # Two starts of the other form bring the same rules.
        other = form(3, [0, 1], [], [(kind, tag, 2, 2) for kind in [0, 1] for tag in tag_names(133)])
        self.assertEqual(len(then(EMPTY, other)[3]), 399)


class BadTags(unittest.TestCase):
    def test_refused(self):
        for tag in BAD_TAGS:
            for one in [NOTHING, EMPTY, ONE, form(1, [], [0], [])]:
                with self.assertRaises(BadForm):
                    inside(tag, one)
            for tags in [[tag], ["a", tag], [tag, "a"], ["a", tag, "b"]]:
                with self.assertRaises(BadForm):
                    everything(tags)

    def test_ahead_of_too_many(self):
        with self.assertRaises(BadForm):
            inside("A", kinds(64))
        with self.assertRaises(BadForm):
            inside("A", rules(400))
        for place in [0, 200, 401]:
            tags = tag_names(401)
            tags.insert(place, "A")
            with self.assertRaises(BadForm):
                everything(tags)


class Handed(unittest.TestCase):
    def test_what_is_handed_in_stays(self):
        tags = ["b", "a", "b"]
        everything(tags)
        self.assertEqual(tags, ["b", "a", "b"])

    def test_forms_are_told(self):
        for made in [join(ONE, OTHER), then(ONE, OTHER), again(ONE), inside("x", ONE), common(ONE, OTHER),
                     everything(["b", "a"])]:
            self.assertEqual(form(*made), made)


if __name__ == "__main__":
    unittest.main()
