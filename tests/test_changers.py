import random
import unittest

from formgrove.changers import changed, changer
from formgrove.errors import BadChanger, TooBig
from samples import become, bounds, flat, groves_up_to, nested, random_changer, spelled, tag_names

KIDS = ("kids", 0)


def wrapped(part, levels):
    """A part with so many tags around it."""
    for _ in range(levels):
        part = ("tag", "w", (("tag", "v", ()), part, ("kids", 0)))
    return part


def depth(grove):
    return max([1 + depth(within) for tag, within in grove], default=0)


class Made(unittest.TestCase):
    def refused(self, modes, rules):
        with self.assertRaises(BadChanger):
            changer(modes, rules)

    def test_ordinary(self):
        self.assertEqual(changer(1, []), (1, ()))
        self.assertEqual(changer(4, []), (4, ()))
        self.assertEqual(changer(2, [(0, "list", (("tag", "row", (("kids", 1),)), KIDS)), (1, "item", ())]),
                         (2, ((0, "list", (("tag", "row", (("kids", 1),)), ("kids", 0))), (1, "item", ()))))

    def test_rules_in_any_order(self):
        rules = [(mode, tag, (("kids", 3 - mode), ("tag", tag + "z", ()))) for mode in range(4)
                 for tag in ["a", "aa", "b", "ba", "z"]]
        chance = random.Random(40)
        for _ in range(20):
            turned = list(rules)
            chance.shuffle(turned)
            kept = list(turned)
            self.assertEqual(changer(4, turned), (4, tuple(rules)))
            self.assertEqual(turned, kept)
        # By the mode first, then by the tag, and by nothing behind that.
        self.assertEqual(changer(2, [(1, "a", ()), (0, "b", (KIDS,))]), (2, ((0, "b", (KIDS,)), (1, "a", ()))))

    def test_modes(self):
        for modes in [1, 2, 3, 4]:
            rules = [(modes - 1, "a", (("kids", modes - 1), KIDS))]
            self.assertEqual(changer(modes, rules), (modes, tuple(rules)))
        for modes in [0, 5, 6, -1, -4, 10 ** 59, -10 ** 59]:
            self.refused(modes, [])
            self.refused(modes, [(0, "a", ())])

    def test_a_bad_mode(self):
        for modes in [1, 2, 3, 4]:
            for bad in [modes, modes + 1, -1, -modes, 10 ** 59]:
                self.refused(modes, [(bad, "a", ())])
                self.refused(modes, [(0, "a", ()), (bad, "b", (KIDS,))])
                for levels in range(12):
                    self.refused(modes, [(0, "a", (wrapped(("kids", bad), levels),))])
                    self.refused(modes, [(0, "a", (KIDS, ("tag", "b", (KIDS,)), wrapped(("kids", bad), levels)))])

    def test_a_bad_tag(self):
        for bad in ["", "A", "a b", "abcdefghi", "a1", "/", "{}", "a ", "0"]:
            self.refused(1, [(0, bad, ())])
            self.refused(2, [(0, "a", ()), (1, bad, (KIDS,))])
            for levels in range(12):
                self.refused(1, [(0, "a", (wrapped(("tag", bad, ()), levels),))])
                self.refused(1, [(0, "a", (KIDS, wrapped(("tag", bad, (KIDS,)), levels), KIDS))])
        self.assertEqual(len(changer(1, [(0, "abcdefgh", (wrapped(("tag", "abcdefgh", ()), 11),))])[1]), 1)

    def test_two_rules_of_one_mode_and_tag(self):
        self.refused(1, [(0, "a", ()), (0, "a", ())])
        self.refused(1, [(0, "a", ()), (0, "b", ()), (0, "a", (KIDS,))])
        self.refused(2, [(1, "a", (KIDS,)), (0, "a", ()), (1, "a", (KIDS,))])
        self.assertEqual(len(changer(2, [(1, "a", ()), (0, "a", ()), (0, "aa", ())])[1]), 3)

    def test_forty_rules_of_forty_parts(self):
        parts = (KIDS,) * 20 + (("tag", "b", (("kids", 3),) * 18),) + (("kids", 2),)
        rules = [(mode, tag, parts) for mode in range(4) for tag in tag_names(10)]
        self.assertEqual(changer(4, rules[::-1]), (4, tuple(rules)))


class Changed(unittest.TestCase):
    def test_without_rules(self):
        for modes in [1, 4]:
            for grove in [(), flat(3), nested(3), bounds()]:
                for mode in range(modes):
                    self.assertEqual(changed((modes, ()), grove, mode), grove)
        self.assertEqual(changed((1, ((0, "b", ()),)), nested(3)), nested(3))

    def test_kids_put_into_the_row(self):
        unwrap = changer(1, [(0, "a", (KIDS,))])
        self.assertEqual(changed(unwrap, (("a", flat(2, "b")), ("c", (("a", flat(1, "d")),)))),
                         flat(2, "b") + (("c", flat(1, "d")),))
        self.assertEqual(changed(unwrap, nested(100)), ())

    def test_kids_twice(self):
        twice = changer(1, [(0, "a", (KIDS, ("tag", "m", ()), KIDS))])
        self.assertEqual(changed(twice, (("a", (("b", ()), ("a", ()))),)),
                         flat(1, "b") + flat(3, "m")[:1] + flat(1, "m") + flat(1, "b") + flat(1, "m"))

    def test_kids_at_a_depth(self):
        deep = changer(1, [(0, "a", (("tag", "x", (("tag", "y", (KIDS,)), ("tag", "z", ()))),))])
        self.assertEqual(changed(deep, (("a", flat(2)),)),
                         (("x", (("y", (("x", (("y", ()), ("z", ()))),) * 2), ("z", ()))),))

    def test_no_kids(self):
        gone = changer(1, [(0, "a", ()), (0, "b", (("tag", "c", ()),))])
        self.assertEqual(changed(gone, (("a", flat(3, "c")), ("b", flat(3)), ("d", (("a", flat(1, "c")),)))),
                         (("c", ()), ("d", ())))

    def test_what_comes_is_not_changed_again(self):
        self.assertEqual(changed(changer(1, [(0, "a", (("tag", "b", (KIDS,)),)), (0, "b", (("tag", "a", (KIDS,)),))]),
                                 (("a", flat(1, "b")),)), (("b", flat(1)),))

    def test_other_modes(self):
        turned = changer(2, [(0, "a", (("tag", "a", (("kids", 1),)),)), (1, "a", (("tag", "b", (("kids", 0),)),))])
        self.assertEqual(changed(turned, nested(4)), (("a", (("b", (("a", (("b", ()),)),)),)),))
        self.assertEqual(changed(turned, nested(4), 1), (("b", (("a", (("b", (("a", ()),)),)),)),))
        # A tag without a rule leaves the mode as it is.
        self.assertEqual(changed(turned, (("a", (("c", flat(1)),)), ("c", flat(1)))),
                         (("a", (("c", flat(1, "b")),)), ("c", flat(1))))
        mixed = changer(4, [(0, "a", (("kids", 3), ("kids", 0))), (3, "a", (("tag", "z", ()),))])
        self.assertEqual(changed(mixed, (("a", (("b", flat(1)), ("a", ()))),)),
                         (("b", flat(1, "z")), ("z", ()), ("b", ())))

    def test_mode_0_where_no_other_is_told(self):
        by_mode = changer(3, [(mode, "a", (("tag", tag, ()),)) for mode, tag in enumerate("xyz")])
        self.assertEqual(changed(by_mode, flat(1)), flat(1, "x"))
        for mode, tag in enumerate("xyz"):
            self.assertEqual(changed(by_mode, flat(1), mode), flat(1, tag))

    def test_against_the_words_of_the_document(self):
        chance = random.Random(41)
        groves = groves_up_to(4, ["a", "b"])
        for _ in range(150):
            made = random_changer(chance, chance.randrange(1, 5), ["a", "b"])
            for grove in chance.sample(groves, 25):
                for mode in range(made[0]):
                    come = become(made, grove, mode)
                    if len(spelled(come)) <= 600:
                        self.assertEqual(changed(made, grove, mode), come)

    def test_what_is_told_is_a_grove(self):
        grove = (("a", flat(2)),)
        told = changed(changer(1, [(0, "a", (("tag", "b", (KIDS, KIDS)),))]), grove)
        self.assertEqual(told, (("b", flat(4, "b")),))
        self.assertEqual(grove, (("a", flat(2)),))


class TooBigOnes(unittest.TestCase):
    def refused(self, made, grove, mode=0):
        with self.assertRaises(TooBig):
            changed(made, grove, mode)

    def test_300_and_301_tags(self):
        twice = changer(1, [(0, "a", (("tag", "b", ()), ("tag", "b", ()))), (0, "b", (KIDS, KIDS)),
                            (0, "c", (("tag", "c", (("tag", "c", ()),)), ("tag", "c", ())))])
        self.assertEqual(changed(twice, flat(150)), flat(300, "b"))
        self.refused(twice, flat(150) + flat(1, "d"))
        self.refused(twice, flat(151))
        self.assertEqual(changed(twice, (("b", flat(150, "d")),)), flat(300, "d"))
        self.refused(twice, (("b", flat(150, "d")), ("d", ())))
        self.assertEqual(len(changed(twice, flat(100, "c"))), 200)
        self.refused(twice, (("d", flat(100, "c")),))
        same = changer(1, [])
        self.assertEqual(changed(same, flat(300)), flat(300))
        self.refused(same, flat(301))
        self.refused(same, bounds() + flat(1))

    def test_100_and_101_deep(self):
        twice = changer(2, [(0, "a", (("tag", "a", (("tag", "b", (KIDS,)),)),)), (1, "a", (("kids", 0),))])
        self.assertEqual(depth(changed(twice, nested(50))), 100)
        self.refused(twice, nested(51))
        self.refused(twice, (("b", nested(50)),))
        self.refused(twice, flat(1) + nested(51) + flat(1))
        self.assertEqual(depth(changed(twice, nested(51), 1)), 100)
        self.refused(twice, nested(52), 1)
        self.assertEqual(changed(changer(1, []), nested(100)), nested(100))
        self.refused(changer(1, []), nested(101))
        self.refused(changer(1, []), nested(100) + nested(101, "b"))

    def test_great_ones_that_become_small(self):
        gone = changer(1, [(0, "a", ()), (0, "b", (KIDS,))])
        self.assertEqual(changed(gone, flat(301)), ())
        self.assertEqual(changed(gone, nested(150, "b") + flat(300, "c")), flat(300, "c"))

    def test_far_more(self):
        # Two to the hundredth of tags, and forty to it: only counted, and not in a hurry.
        for count in [2, 40]:
            grows = changer(1, [(0, "a", (KIDS,) * (count - 1) + (("tag", "b", (KIDS,)),))])
            self.refused(grows, nested(100))
            self.refused(grows, nested(50) + nested(99))
            self.assertEqual(len(spelled(changed(grows, nested(4 if count == 2 else 1)))), 30 if count == 2 else 2)

    def test_much_of_nothing(self):
        # Nothing comes, but forty to the hundredth times.
        for count in [2, 40]:
            nothing = changer(4, [(mode, "a", tuple(("kids", (mode + number) % 4) for number in range(count)))
                                  for mode in range(4)])
            self.assertEqual(changed(nothing, nested(100)), ())
            self.assertEqual(changed(nothing, nested(100) + (("b", nested(99)),), 3), flat(1, "b"))

    def test_modes_that_are_not_needed(self):
        # In mode 1 there would come far too much, but nothing is in mode 1.
        made = changer(2, [(1, "a", (("kids", 1), ("tag", "a", ()), ("kids", 1)))])
        self.assertEqual(changed(made, nested(100)), nested(100))
        self.refused(made, nested(100), 1)
        inner = changer(2, [(0, "b", (("kids", 1),)), (1, "a", (("kids", 1), ("tag", "a", ()), ("kids", 1)))])
        self.refused(inner, (("b", nested(9)),))
        self.assertEqual(changed(inner, (("b", nested(8)),)), flat(255))

    def test_near_the_bounds_against_the_words_of_the_document(self):
        chance = random.Random(42)
        seen = set()
        for _ in range(400):
            made = random_changer(chance, chance.randrange(1, 4), ["a", "b"], 2)
            grove = nested(chance.randrange(4), "a") + flat(chance.randrange(60), "b")
            grove = chance.choice([grove, (("a", grove), ("b", grove))])
            come = become(made, grove)
            if len(spelled(come)) > 600 or depth(come) > 100:
                self.refused(made, grove)
            else:
                self.assertEqual(changed(made, grove), come)
            seen.add(len(spelled(come)) > 600)
        self.assertEqual(seen, {True, False})


if __name__ == "__main__":
    unittest.main()
