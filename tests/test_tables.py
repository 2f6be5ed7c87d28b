import random
import unittest

from formgrove.errors import TooBig, TooMany
from formgrove.forms import form
from formgrove.joins import everything
from formgrove.measures import Kinds, Measure, Others
from formgrove.runs import fits
from formgrove.tables import chosen, holds, table
from samples import flat, groves_up_to, is_of, lively_form, nested, of_count, random_parts, spelled, tag_names
from test_measures import value_of


class Same(Measure):
    """One value for all."""

    def nothing(self):
        return ("same",)

    def above(self, tag, inner, rest):
        return ("same",)

    def good(self, value):
        return True


class Counted(Measure):
    """How many tags there are, up to a number at which one begins anew."""

    def __init__(self, most, wanted=()):
        self.most = most
        self.wanted = wanted

    def nothing(self):
        return (0,)

    def above(self, tag, inner, rest):
        return ((1 + inner[0] + rest[0]) % self.most,)

    def good(self, value):
        return value[0] in self.wanted


class Tagged(Measure):
    """The first tree's tag."""

    def nothing(self):
        return ()

    def above(self, tag, inner, rest):
        return (tag,)

    def good(self, value):
        return value == ("b",)


class Lengths(Measure):
    """Values of unlike lengths."""

    def nothing(self):
        return (0, 1)

    def above(self, tag, inner, rest):
        return (0,) if tag == "a" else (1,)

    def good(self, value):
        return True


class Endless(Measure):
    """Another value for each grove."""

    def nothing(self):
        return ()

    def above(self, tag, inner, rest):
        return (tag, inner, rest)

    def good(self, value):
        return False


ALL = everything(["a", "b"])
# Kind k has the row of k trees.
CHAIN = form(64, [63], [0], [(kind, "a", 0, kind - 1) for kind in range(1, 64)])


def key(grove):
    return (len(spelled(grove)), spelled(grove))


def counted_steps(count):
    """A form and a measure whose table has so many steps: 400 or somewhat more, or 4,000 or somewhat more."""
    tags = 10 if count > 2000 else 1
    single = count - 400 * tags
    rules = [(0, tag, 0, 0) for tag in tag_names(tags)] + [(2, tag, 1, 1) for tag in tag_names(single)]
    return form(3, [0], [0, 1], rules), Counted(20, [1])


class Told(unittest.TestCase):
    def test_of_no_kinds(self):
        self.assertEqual(table(form(0, [], [], []), Same()), [])
        self.assertEqual(table(form(2, [0], [], [(0, "a", 1, 1)]), Same()), [])

    def test_ordinary(self):
        self.assertEqual(table(ALL, Same()), [(0, ("same",), ())])
        self.assertEqual(table(ALL, Tagged()), [(0, (), ()), (0, ("a",), flat(1)), (0, ("b",), flat(1, "b"))])
        self.assertEqual(table(form(2, [1], [0], [(1, "a", 0, 0), (1, "b", 1, 0)]), Tagged()), [
            (0, (), ()), (1, ("a",), flat(1)), (1, ("b",), (("b", flat(1)),))])

    def test_two_groves_of_as_many_tags(self):
        self.assertEqual(table(ALL, Counted(4)), [(0, (count,), flat(count)) for count in range(4)])
        inside = form(2, [0], [0, 1], [(0, "b", 0, 1), (0, "a", 0, 1)])
        self.assertEqual(table(inside, Counted(4))[:4], [(0, (count,), nested(count)) for count in range(4)])
        # The one that comes first is found by the later rule, and from a later kind.
        made = form(4, [3], [0], [(1, "b", 0, 0), (2, "a", 0, 0), (3, "c", 1, 0), (3, "c", 2, 0)])
        self.assertEqual(table(made, Same())[3], (3, ("same",), (("c", flat(1)),)))

    def test_fewer_tags_come_before_first_words(self):
        made = form(3, [2], [0], [(1, "a", 0, 0), (2, "a", 1, 0), (2, "z", 0, 0)])
        self.assertEqual(table(made, Same())[2], (2, ("same",), flat(1, "z")))

    def test_values_in_their_order(self):
        class Falling(Counted):
            def nothing(self):
                return (9,)

            def above(self, tag, inner, rest):
                return (max(0, inner[0] + rest[0] - 10),)
        rows = table(ALL, Falling(0))
        self.assertEqual(rows, [(0, (9 - count,), flat(count)) for count in range(9, -1, -1)])
        self.assertEqual([row[1] for row in table(ALL, Lengths())], [(0,), (0, 1), (1,)])

    def test_against_all_small_groves(self):
        chance = random.Random(26)
        groves = sorted(groves_up_to(4, ["a", "b"]), key=key)
        checked = 0
        for _ in range(60):
            made = lively_form(chance, 3, ["a", "b"], 9)
            measure = chance.choice([Kinds, Others])(lively_form(chance, 3, ["a", "b"], 9))
            rows = table(made, measure)
            self.assertEqual([row[:2] for row in rows], sorted({row[:2] for row in rows}))
            found = {}
            for grove in groves:
                value = value_of(measure, grove)
                for kind in range(made[0]):
                    if is_of(made, kind, grove):
                        found.setdefault((kind, value), grove)
            self.assertEqual({row[:2]: row[2] for row in rows if len(spelled(row[2])) <= 8}, found)
            checked += len(found) > 3
            for kind, value, grove in rows:
                self.assertTrue(is_of(made, kind, grove) and value_of(measure, grove) == value)
        self.assertGreater(checked, 15)

    def test_what_is_told_is_the_askers_own(self):
        measure = Counted(3)
        table(ALL, measure).clear()
        self.assertEqual(len(table(ALL, measure)), 3)


class TooManyTuples(unittest.TestCase):
    def test_64_and_65(self):
        self.assertEqual(len(table(CHAIN, Tagged())), 64)
        with self.assertRaises(TooMany):
            table(form(64, [63], [0], CHAIN[3] + ((63, "b", 0, 62),)), Tagged())
        with self.assertRaises(TooMany):
            table(form(64, [63], [0], CHAIN[3] + ((1, "b", 0, 0),)), Tagged())
        self.assertEqual(len(table(everything(["a"]), Counted(63))), 63)

    def test_values_without_an_end(self):
        for made in [ALL, everything(["a"]), form(2, [0], [1], [(0, "a", 1, 0), (0, "b", 1, 1)])]:
            with self.assertRaises(TooMany):
                table(made, Endless())

    def test_kinds_of_no_grove_do_not_count(self):
        self.assertEqual(len(table(form(64, [63], [0], CHAIN[3][:40]), Tagged())), 41)


class TooManySteps(unittest.TestCase):
    def test_4000_and_4001(self):
        made, measure = counted_steps(4000)
        self.assertEqual(len(table(made, measure)), 21)
        made, measure = counted_steps(4001)
        with self.assertRaises(TooMany):
            table(made, measure)
        self.assertEqual(len(table(everything(["a"]), Counted(63))), 63)
        with self.assertRaises(TooMany):
            table(everything(["a"]), Counted(64))

    def test_a_rule_of_one_kind_counts_each_two_once(self):
        made, measure = counted_steps(401)
        self.assertEqual(len(table(made, measure)), 22)


def towering(extra):
    """Kinds 0 to 62 have one grove of at most 300 tags each, kind 63 one of 487."""
    rules = [(kind, "a", 0, kind - 1) for kind in range(1, 61)]
    rules += [(kind, "a", kind - 1, kind - 1) for kind in [61, 62, 63]]
    return form(64, [63], [0], rules + extra)


class TooBigOnes(unittest.TestCase):
    def test_300_and_301_tags(self):
        for count in [299, 300]:
            made, grove = of_count(count)
            self.assertIn((made[1][0], ("same",), grove), table(made, Same()))
        for count in [301, 302, 511]:
            with self.assertRaises(TooBig):
                table(of_count(count)[0], Same())

    def test_a_value_of_which_each_grove_is_too_big(self):
        # A row of one tag begins anew at the number told, so the last value has one tag less.
        made = form(2, [0], [0, 1], [(0, "a", 1, 0)])
        self.assertEqual(len(table(made, Counted(60))), 61)
        full = of_count(300)[0]
        start = full[1][0]
        more = form(full[0], [start], full[2], full[3] + ((start, "b", 0, start),))
        with self.assertRaises(TooBig):
            table(more, Tagged())
        less = form(full[0], [start], full[2], full[3] + ((start, "b", 0, 0),))
        self.assertEqual(table(less, Tagged())[-1], (start, ("b",), flat(1, "b")))

    def test_a_great_grove_found_ahead_of_a_small_one(self):
        # Kind 2 is come to with 2 * 200 tags first, and by its own second rule with fewer.
        full = of_count(200)[0]
        start = full[1][0]
        more = form(full[0] + 2, [start], full[2],
                    full[3] + ((full[0], "a", start, start), (full[0], "a", full[0] + 1, 0),
                               (full[0] + 1, "a", start, 1)))
        self.assertEqual(len(spelled(table(more, Same())[-2][2])) // 2, 203)

    def test_too_many_comes_first(self):
        with self.assertRaises(TooBig):
            table(towering([]), Tagged())
        with self.assertRaises(TooMany):
            table(towering([(5, "b", 0, 4), (6, "b", 0, 5)]), Tagged())
        made, measure = counted_steps(4001)
        big = of_count(301)[0]
        with self.assertRaises(TooMany):
            table(beside(made, big), measure)

    def test_only_small_ones_count_for_it(self):
        # 64 tuples of at most 300 tags, and one more.
        with self.assertRaises(TooBig):
            table(towering([(5, "b", 0, 4)]), Tagged())
        # 3,971 steps of the first kind, 20 of kind 2, 9 up to the first kind of too many tags, and one with that.
        rules = [(0, tag, 0, 0) for tag in tag_names(11)] + [(2, tag, 1, 1) for tag in tag_names(20)]
        rules += [(3, "a", 1, 1)] + [(kind, "a", kind - 1, kind - 1) for kind in range(4, 12)]
        with self.assertRaises(TooBig):
            table(form(13, [0], [0, 1], rules + [(12, "a", 11, 11)]), Counted(19))
        with self.assertRaises(TooMany):
            table(form(13, [0], [0, 1], rules + [(12, "a", 11, 11), (2, "zz", 1, 1)]), Counted(19))


def beside(one, other):
    """The kinds and rules of two forms."""
    many = one[0]
    return form(many + other[0], one[1], list(one[2]) + [many + end for end in other[2]], list(one[3]) + [
        (many + kind, tag, many + inner, many + rest) for kind, tag, inner, rest in other[3]])


def plainly_closed(made, measure, rows):
    pairs = [tuple(row[:2]) for row in rows]
    return (all((end, measure.nothing()) in pairs for end in made[2])
            and all((kind, measure.above(tag, value, other)) in pairs for kind, tag, inner, rest in made[3]
                    for first, value in pairs if first == inner for second, other in pairs if second == rest))


class Holds(unittest.TestCase):
    def setUp(self):
        self.made = form(3, [0], [1, 2], [(0, "a", 1, 0), (0, "b", 0, 2), (0, "a", 2, 2), (1, "b", 0, 1)])
        self.other = form(2, [0], [1], [(0, "a", 1, 0), (0, "a", 1, 1), (1, "b", 0, 1)])
        self.measure = Kinds(self.other)
        self.rows = table(self.made, self.measure)

    def test_the_table_is_closed(self):
        self.assertGreater(len(self.rows), 5)
        self.assertIs(holds(self.made, self.measure, self.rows), True)

    def test_without_one(self):
        for number in range(len(self.rows)):
            left = self.rows[:number] + self.rows[number + 1:]
            self.assertIs(holds(self.made, self.measure, left), False)

    def test_without_all(self):
        self.assertIs(holds(self.made, self.measure, []), False)
        self.assertIs(holds(form(2, [0], [], [(0, "a", 1, 1)]), self.measure, []), True)

    def test_with_one_more(self):
        seen = set()
        for kind in range(3):
            for value in [(), (0,), (1,), (0, 1)]:
                rows = self.rows + [(kind, value, ())]
                wanted = plainly_closed(self.made, self.measure, rows)
                seen.add(wanted)
                self.assertIs(holds(self.made, self.measure, rows), wanted)
        self.assertEqual(seen, {True})
        wide = form(2, [0], [1], [(0, "a", 1, 0), (0, "b", 1, 1)])
        self.assertIs(holds(wide, Endless(), [(1, ()), (0, ("b", (), ()))]), False)
        self.assertIs(holds(wide, Tagged(), [(1, ()), (0, ("b",)), (0, ("a",))]), True)
        self.assertIs(holds(wide, Counted(2), [(1, (0,)), (0, (1,)), (0, (0,))]), True)
        self.assertIs(holds(wide, Counted(9), [(1, (0,)), (0, (1,)), (0, (0,))]), False)
        self.assertIs(holds(self.made, self.measure, self.rows + [(7, (1,))]), True)
        self.assertIs(holds(ALL, Counted(3), table(ALL, Counted(3)) + [(0, (7,))]), True)
        self.assertIs(holds(ALL, Tagged(), table(ALL, Tagged()) + [(0, ("c",))]), True)
        self.assertIs(holds(ALL, Endless(), [(0, ())]), False)

    def test_doubled_and_turned_about(self):
        self.assertIs(holds(self.made, self.measure, self.rows + self.rows), True)
        self.assertIs(holds(self.made, self.measure, self.rows[::-1]), True)
        self.assertIs(holds(self.made, self.measure, self.rows[::-1] + self.rows[1:]), True)
        self.assertIs(holds(self.made, self.measure, (self.rows + self.rows)[1:-1]), True)

    def test_what_is_behind_the_two_is_not_looked_at(self):
        self.assertIs(holds(self.made, self.measure, [row[:2] for row in self.rows]), True)
        self.assertIs(holds(self.made, self.measure, [row[:2] + ("?", [], {}) for row in self.rows]), True)
        self.assertIs(holds(self.made, self.measure, [row[:2] + ([],) for row in self.rows[1:]]), False)

    def test_an_end_alone_may_be_missing(self):
        made = form(2, [0], [0, 1], [])
        self.assertIs(holds(made, Same(), [(0, ("same",)), (1, ("same",))]), True)
        self.assertIs(holds(made, Same(), [(0, ("same",))]), False)
        self.assertIs(holds(made, Same(), [(1, ("same",))]), False)
        self.assertIs(holds(made, Same(), [(0, ("same",)), (1, ("other",))]), False)

    def test_plainly(self):
        chance = random.Random(27)
        seen = set()
        for _ in range(300):
            made = form(*random_parts(chance, 2, ["a", "b"], 3))
            measure = Kinds(form(*random_parts(chance, 2, ["a", "b"], 3)))
            rows = [(chance.randrange(2), chance.choice([(), (0,), (1,), (0, 1)])) for _ in range(chance.randrange(8))]
            wanted = plainly_closed(made, measure, rows)
            seen.add(wanted)
            self.assertIs(holds(made, measure, rows), wanted)
        self.assertEqual(seen, {True, False})

    def test_what_is_handed_in_stays(self):
        rows = list(self.rows)
        holds(self.made, self.measure, rows)
        self.assertEqual(rows, self.rows)


class Chosen(unittest.TestCase):
    def test_just_as_told(self):
        made = form(2, [0, 1], [1], [(0, "a", 1, 0), (0, "b", 1, 1)])
        # The tuples: (0, a), (0, b), (1, ()).
        self.assertEqual(chosen(made, Tagged()), form(3, [1], [2], [
            (0, "a", 2, 0), (0, "a", 2, 1), (1, "b", 2, 2)]))
        self.assertEqual(chosen(made, Same()), form(2, [0, 1], [1], made[3]))
        self.assertEqual(chosen(form(0, [], [], []), Same()), form(0, [], [], []))

    def test_ends_have_the_value_of_the_grove_without_tags(self):
        made = everything(["a"])
        self.assertEqual(chosen(made, Counted(2, [1])), form(2, [1], [0], [
            (1, "a", 0, 0), (0, "a", 0, 1), (0, "a", 1, 0), (1, "a", 1, 1)]))

    def test_its_groves(self):
        chance = random.Random(28)
        groves = groves_up_to(4, ["a", "b"])
        for _ in range(40):
            made = lively_form(chance, 3, ["a", "b"], 8)
            other = lively_form(chance, 3, ["a", "b"], 8)
            for measure in [Kinds(other), Others(other), Counted(3, [0, 2]), Tagged()]:
                try:
                    picked = chosen(made, measure)
                except TooMany:
                    continue
                self.assertEqual(form(*picked), picked)
                self.assertEqual(picked[0], len(table(made, measure)))
                for grove in groves:
                    self.assertEqual(fits(picked, grove), fits(made, grove) and measure.good(value_of(measure, grove)))

    def test_400_and_401_rules(self):
        made, measure = counted_steps(400)
        self.assertEqual(len(chosen(made, measure)[3]), 400)
        made, measure = counted_steps(401)
        self.assertEqual(len(table(made, measure)), 22)
        with self.assertRaises(TooMany):
            chosen(made, measure)

    def test_refused_where_the_table_is(self):
        with self.assertRaises(TooBig):
            chosen(of_count(301)[0], Same())
        with self.assertRaises(TooMany):
            chosen(ALL, Endless())
        self.assertEqual(chosen(of_count(300)[0], Same()), of_count(300)[0])

    def test_64_kinds(self):
        self.assertEqual(chosen(CHAIN, Same()), CHAIN)


if __name__ == "__main__":
    unittest.main()
