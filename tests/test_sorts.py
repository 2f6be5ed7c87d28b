import random
import unittest

from formgrove.books import read
from formgrove.build import form_of
from formgrove.errors import TooBig, TooMany
from formgrove.forms import form
from formgrove.joins import again, common, everything, inside, join, then
from formgrove.runs import fits
from formgrove.sorts import equal, firsts, sort_of, sorts
from formgrove.texts import read as grove_of
from formgrove.within import less, parting
from formgrove.words import grove_of as grove_of_words
from samples import bounds, flat, full, groves_up_to, lively_form, nested, of_count, spelled

NO_GROVE = [form(0, [], [], []), form(1, [], [0], [(0, "a", 0, 0)]), form(1, [0], [], [(0, "a", 0, 0)]),
            form(2, [1], [0], [(1, "a", 1, 0)])]
NONE = (0, None, (), ())
EMPTY = form(1, [0], [0], [])
DOC = form_of(read("A = {note | list(B)}*; B = item+"))
GROVES = groves_up_to(4, ["a", "b"])


def key(grove):
    return (len(spelled(grove)), spelled(grove))


def small_settings(most):
    """All settings of groves of at most so many tags: ahead of a rest of a row, and behind it."""
    found = set()
    for grove in groves_up_to(most, ["a", "b"]):
        words = spelled(grove)
        for place in range(len(words) + 1):
            # The row at the place ends at the next `/` that ends a tag begun ahead of it.
            height = 0
            end = place
            while end < len(words) and (words[end] != "/" or height):
                height += -1 if words[end] == "/" else 1
                end += 1
            found.add((tuple(words[:place]), tuple(words[end:])))
    return sorted(found, key=lambda pair: (len(pair[0] + pair[1]), pair))


SETTINGS = small_settings(3)


def put(setting, grove):
    return grove_of_words(list(setting[0]) + spelled(grove) + list(setting[1]))


def answers(made, grove):
    """What all small settings make of a grove."""
    return tuple(fits(made, put(setting, grove)) for setting in SETTINGS)


def far(count):
    """The form of rows whose tree at a number is `a`: it has that many things to remember."""
    return form_of(read("A = " + "{a | b} " * count + "a {a | b}*"))


class Told(unittest.TestCase):
    def test_ordinary(self):
        self.assertEqual(sorts(everything(["a"])), (1, 0, (0,), (("a", 0, 0, 0),)))
        self.assertEqual(sorts(everything(["b", "a"])), (1, 0, (0,), (("a", 0, 0, 0), ("b", 0, 0, 0))))
        self.assertEqual(sorts(EMPTY), (1, 0, (0,), ()))
        self.assertEqual(sorts(form_of(read("A = a"))), (2, 0, (1,), (("a", 0, 0, 1),)))
        self.assertEqual(sorts(form_of(read("A = a a | b"))), (3, 0, (2,), (
            ("a", 0, 0, 1), ("a", 0, 1, 2), ("b", 0, 0, 2))))
        self.assertEqual(sorts(DOC), (3, 0, (0, 2), (
            ("item", 0, 0, 1), ("item", 0, 1, 1), ("list", 1, 0, 2), ("list", 1, 2, 2), ("note", 0, 0, 2),
            ("note", 0, 2, 2))))

    def test_tags_within_tags(self):
        known = sorts(form_of(read("A = a(A) | {}")))
        self.assertEqual(known, (2, 0, (0, 1), (("a", 0, 0, 1), ("a", 1, 0, 1))))
        self.assertEqual(firsts(known), [(), nested(1)])

    def test_no_grove_fits(self):
        for made in NO_GROVE:
            self.assertEqual(sorts(made), NONE)
            self.assertEqual(firsts(NONE), [])

    def test_kinds_that_are_not_live_or_come_to(self):
        base = form_of(read("A = a(b)*"))
        many = base[0]
        more = form(many + 3, list(base[1]) + [many], list(base[2]) + [many + 1], list(base[3]) + [
            (many, "c", many, 0), (many + 1, "c", many + 1, many + 1), (0, "c", many, 0), (many + 2, "a", 0, 0)])
        self.assertEqual(sorts(more), sorts(base))
        self.assertNotIn("c", [step[0] for step in sorts(more)[3]])

    def test_sorts_of_values_that_are_alike(self):
        # Kinds 1 and 2 do the same, so that values are more than sorts.
        made = form(3, [0], [1, 2], [(0, "a", 1, 1), (0, "b", 2, 2), (1, "c", 1, 1), (2, "c", 2, 2), (1, "c", 2, 1)])
        self.assertEqual(sorts(made), (2, 0, (1,), (("a", 0, 0, 1), ("b", 0, 0, 1), ("c", 0, 0, 0))))

    def test_numbered_in_the_order_of_least_groves(self):
        chance = random.Random(32)
        for _ in range(60):
            made = lively_form(chance, 3, ["a", "b"], 8)
            known = sorts(made)
            groves = firsts(known)
            self.assertEqual(len(groves), known[0])
            self.assertEqual(groves, sorted(groves, key=key))
            self.assertEqual(groves[0], ())
            self.assertEqual([sort_of(known, grove) for grove in groves], list(range(known[0])))
            self.assertEqual(known[2], tuple(number for number in range(known[0]) if fits(made, groves[number])))
            self.assertEqual(known[3], tuple(sorted(set(known[3]))))
            found = {}
            for grove in sorted(GROVES, key=key):
                found.setdefault(sort_of(known, grove), grove)
            for number, grove in found.items():
                if number is not None:
                    self.assertEqual(groves[number], grove)

    def test_steps_tell_all_groves(self):
        chance = random.Random(33)
        for _ in range(30):
            known = sorts(lively_form(chance, 3, ["a", "b"], 8))
            steps = {step[:3]: step[3] for step in known[3]}
            self.assertEqual(len(steps), len(known[3]))
            for grove in GROVES[1:]:
                tag, within = grove[0]
                told = steps.get((tag, sort_of(known, within), sort_of(known, grove[1:])))
                self.assertEqual(sort_of(known, grove), told)

    def test_each_setting_makes_the_same_of_one_sort(self):
        chance = random.Random(34)
        groves = groves_up_to(3, ["a", "b"])
        for _ in range(12):
            made = lively_form(chance, 3, ["a", "b"], 8)
            known = sorts(made)
            seen = {}
            for grove in groves:
                number = sort_of(known, grove)
                told = answers(made, grove)
                self.assertEqual(seen.setdefault(number, told), told)
                if number is None:
                    self.assertNotIn(True, told)

    def test_unlike_sorts_are_told_apart_by_small_settings_here(self):
        for text in ["A = a b*", "A = a(b?)*", "A = a(a)* | b", "A = {a b}* b?", "A = a(A) | b(A)* | {}"]:
            made = form_of(read(text))
            known = sorts(made)
            told = [answers(made, grove) for grove in firsts(known)]
            self.assertEqual(len(set(told)), known[0])
            self.assertTrue(all(True in row for row in told))


class Equal(unittest.TestCase):
    def test_made_in_unlike_ways(self):
        chance = random.Random(35)
        for _ in range(25):
            one = lively_form(chance, 3, ["a", "b"], 6)
            for other in [join(one, one), common(one, one), then(one, EMPTY), then(EMPTY, one), less(one, NO_GROVE[0]),
                          join(one, NO_GROVE[1])]:
                self.assertIs(equal(one, other), True)
                self.assertEqual(sorts(one), sorts(other))
        self.assertIs(equal(again(DOC), DOC), True)
        for one, other in [("A = a*", "A = {a a}* a?"), ("A = {a | b}*", "A = {a* b*}*"), ("A = a a*", "A = a+"),
                           ("A = a(b)?", "A = {} | a(b)"), ("A = B B; B = a?", "A = {} | a | a a")]:
            self.assertIs(equal(form_of(read(one)), form_of(read(other))), True)

    def test_unlike(self):
        self.assertIs(equal(DOC, inside("a", DOC)), False)
        self.assertIs(equal(EMPTY, everything(["a"])), False)
        self.assertIs(equal(everything(["a"]), everything(["b"])), False)
        self.assertIs(equal(form_of(read("A = a*")), form_of(read("A = a+"))), False)

    def test_of_no_groves_at_all(self):
        for one in NO_GROVE:
            self.assertIs(equal(one, DOC), False)
            self.assertIs(equal(DOC, one), False)
            for other in NO_GROVE:
                self.assertIs(equal(one, other), True)

    def test_just_where_nothing_parts_them(self):
        chance = random.Random(36)
        forms = [lively_form(chance, 2, ["a", "b"], 5) for _ in range(30)]
        seen = set()
        for one in forms:
            for other in forms[:10]:
                seen.add(equal(one, other))
                self.assertIs(equal(one, other), parting(one, other) is None)
        self.assertEqual(seen, {True, False})


class SortOf(unittest.TestCase):
    def test_groves_of_no_live_sort(self):
        known = sorts(DOC)
        for text in ["list", "item note", "note(item)", "other", "list(list(item))", "item(item)", "item list(item)"]:
            self.assertIsNone(sort_of(known, grove_of(text)))
        for grove in GROVES:
            self.assertIsNone(sort_of(NONE, grove))

    def test_ordinary(self):
        known = sorts(DOC)
        for text, wanted in [("", 0), ("item", 1), ("item item", 1), ("note", 2), ("list(item) note", 2)]:
            self.assertEqual(sort_of(known, grove_of(text)), wanted)

    def test_great_ones(self):
        known = sorts(everything(["a", "b", "c", "deep"]))
        self.assertEqual(sort_of(known, bounds()), 0)
        self.assertIsNone(sort_of(sorts(everything(["a", "b", "c"])), bounds()))
        self.assertEqual(sort_of(sorts(form_of(read("A = {a a}*"))), flat(299)), 1)

    def test_fitting_groves_are_of_good_sorts(self):
        chance = random.Random(37)
        for _ in range(30):
            made = lively_form(chance, 3, ["a", "b"], 8)
            known = sorts(made)
            for grove in GROVES:
                self.assertIs(sort_of(known, grove) in known[2], fits(made, grove))


class Refused(unittest.TestCase):
    def test_many_values(self):
        # Which of the trees up to the number are `a`, and () by itself, since it alone stands within tags.
        for count in range(5):
            self.assertEqual(sorts(far(count))[0], 2 ** (count + 1) + 1)
        with self.assertRaises(TooMany):
            sorts(far(5))
        with self.assertRaises(TooMany):
            sorts(far(6))

    def test_63_and_64_values_of_one_tag(self):
        # A value for each row up to the one that fits, and one for all else: 63 by 63 are fewer than 4,000 steps.
        def row(count):
            return form(count, [count - 1], [0], [(kind, "a", 0, kind - 1) for kind in range(1, count)])
        self.assertEqual(sorts(row(62))[0], 62)
        self.assertEqual(firsts(sorts(row(62))), [flat(count) for count in range(62)])
        with self.assertRaises(TooMany):
            sorts(row(63))

    def test_too_big(self):
        self.assertEqual(firsts(sorts(of_count(300)[0]))[-1], of_count(300)[1])
        with self.assertRaises(TooBig):
            sorts(of_count(301)[0])

    def test_only_the_trimmed_form_counts(self):
        big = of_count(301)[0]
        self.assertEqual(sorts(form(big[0], [5], big[2], big[3]))[0], 6)
        self.assertEqual(firsts(sorts(form(big[0], [5], big[2], big[3])))[5], full(5))
        lost = form(far(5)[0] + 1, [far(5)[0]], [far(5)[0]], far(5)[3])
        self.assertEqual(sorts(lost), (1, 0, (0,), ()))

    def test_equal_by_the_one_and_by_the_other(self):
        for one, other, error in [(far(5), DOC, TooMany), (DOC, far(5), TooMany), (of_count(301)[0], DOC, TooBig),
                                  (DOC, of_count(301)[0], TooBig), (of_count(301)[0], far(5), TooBig),
                                  (far(5), of_count(301)[0], TooMany)]:
            with self.assertRaises(error):
                equal(one, other)


class Own(unittest.TestCase):
    def test_what_is_told_is_the_askers_own(self):
        known = sorts(DOC)
        firsts(known).clear()
        self.assertEqual(len(firsts(known)), 3)
        self.assertEqual(firsts(known)[1], flat(1, "item"))


if __name__ == "__main__":
    unittest.main()
