import itertools
import random
import unittest

from formgrove.errors import BadForm, TooMany
from formgrove.forms import form, live, trimmed
from samples import groves_up_to, is_of, random_parts

HUGE = 10 ** 60 - 1


def rules_of(count):
    """So many unlike rules over 64 kinds."""
    return [(number % 64, "a", number // 64, 0) for number in range(count)]


class Making(unittest.TestCase):
    def test_no_kinds(self):
        self.assertEqual(form(0, [], [], []), (0, (), (), ()))

    def test_one_kind(self):
        self.assertEqual(form(1, [0], [0], [(0, "a", 0, 0)]), (1, (0,), (0,), ((0, "a", 0, 0),)))

    def test_order_and_doubles(self):
        made = form(3, [2, 0, 2], [1, 0, 1, 1], [(2, "b", 0, 0), (0, "b", 1, 2), (0, "a", 2, 2), (2, "b", 0, 0),
                                                 (0, "b", 1, 1), (0, "ab", 0, 0), (0, "b", 0, 2)])
        self.assertEqual(made, (3, (0, 2), (0, 1), ((0, "a", 2, 2), (0, "ab", 0, 0), (0, "b", 0, 2), (0, "b", 1, 1),
                                                    (0, "b", 1, 2), (2, "b", 0, 0))))
        for part in [made, made[1], made[2], made[3], made[3][0]]:
            self.assertIs(type(part), tuple)

    def test_any_order_makes_the_same_form(self):
        rules = [(0, "a", 1, 0), (1, "b", 0, 0), (0, "b", 0, 1)]
        made = {form(2, list(starts), list(starts), list(some))
                for some in itertools.permutations(rules + rules[:1]) for starts in [(0, 1), (1, 0)]}
        self.assertEqual(len(made), 1)

    def test_at_the_bounds(self):
        kinds = list(range(64))
        made = form(64, kinds[::-1], kinds, rules_of(400)[::-1])
        self.assertEqual(made, (64, tuple(kinds), tuple(kinds), tuple(sorted(rules_of(400)))))

    def test_doubles_do_not_count(self):
        made = form(64, [0] * 100, [0] * 100, rules_of(350) * 2)
        self.assertEqual(len(made[3]), 350)

    def test_what_is_handed_in_stays(self):
        starts, ends, rules = [1, 0, 1], [0, 0], [(1, "b", 0, 0), (0, "a", 1, 1), (1, "b", 0, 0)]
        made = form(2, starts, ends, rules)
        self.assertEqual((starts, ends, rules), ([1, 0, 1], [0, 0], [(1, "b", 0, 0), (0, "a", 1, 1), (1, "b", 0, 0)]))
        kept = (2, (0, 1), (0,), ((0, "a", 1, 1), (1, "b", 0, 0)))
        starts.clear()
        ends.append(1)
        rules.clear()
        self.assertEqual(made, kept)


class Refusals(unittest.TestCase):
    def bad_ones(self, many):
        """What is refused with BadForm of a form of many kinds."""
        good = (0, "a", 0, 0)
        for wrong in [-1, many, many + 1, HUGE * 10, -HUGE]:
            yield [wrong], [], []
            yield [0, wrong], [0], [good]
            yield [], [wrong], []
            yield [0], [0, wrong, 0], [good]
            yield [0], [0], [(wrong, "a", 0, 0)]
            yield [0], [0], [good, (0, "a", wrong, 0), good]
            yield [0], [0], [good, (0, "a", 0, wrong)]
        for wrong in ["", "abcdefghi", "A", "a b", "a1", "/", "a/", "aB", "x" * 40]:
            yield [0], [0], [(0, wrong, 0, 0)]
            yield [0], [0], [good, (0, wrong, 0, 0), good]

    def test_bad_ones_alone(self):
        for many in [1, 2, 64]:
            for starts, ends, rules in self.bad_ones(many):
                with self.assertRaises(BadForm):
                    form(many, starts, ends, rules)

    def test_fewer_kinds_than_none(self):
        for many in [-1, -64, -HUGE]:
            for starts in [[], [0], [-1]]:
                with self.assertRaises(BadForm):
                    form(many, starts, [], [])

    def test_no_kind_of_none(self):
        for starts, ends, rules in [([0], [], []), ([], [0], []), ([], [], [(0, "a", 0, 0)])]:
            with self.assertRaises(BadForm):
                form(0, starts, ends, rules)

    def test_too_many_kinds(self):
        for many in [65, 66, 1000, HUGE]:
            for kinds in [[], [64], [many - 1]]:
                with self.assertRaises(TooMany):
                    form(many, kinds, kinds, [(kind, "a", kind, kind) for kind in kinds])

    def test_too_many_rules(self):
        for count in [401, 402, 700]:
            with self.assertRaises(TooMany):
                form(64, [0], [0], rules_of(count))

    def test_bad_together_with_too_many_kinds(self):
        for many in [65, HUGE]:
            for starts, ends, rules in self.bad_ones(many):
                with self.assertRaises(BadForm):
                    form(many, starts, ends, rules)

    def test_bad_together_with_too_many_rules(self):
        for starts, ends, rules in self.bad_ones(64):
            for some in [rules + rules_of(401), rules_of(401) + rules]:
                with self.assertRaises(BadForm):
                    form(64, starts, ends, some)
        with self.assertRaises(BadForm):
            form(-1, [], [], rules_of(401))

    def test_too_many_of_both(self):
        with self.assertRaises(TooMany):
            form(65, [0], [0], rules_of(401))


class Live(unittest.TestCase):
    def test_none(self):
        self.assertEqual(live(form(0, [], [], [])), [])
        self.assertEqual(live(form(2, [0], [], [(0, "a", 0, 1), (1, "a", 1, 0)])), [])

    def test_inner_and_rest_must_both_be_live(self):
        made = form(5, [0], [4], [(0, "a", 1, 4), (1, "a", 4, 0), (2, "a", 4, 3), (3, "a", 4, 4)])
        self.assertEqual(live(made), [2, 3, 4])

    def test_a_long_way(self):
        rising = form(64, [63], [0], [(kind, "a", kind - 1, 0) for kind in range(1, 64)])
        falling = form(64, [0], [63], [(kind, "a", kind + 1, 63) for kind in range(63)])
        self.assertEqual(live(rising), list(range(64)))
        self.assertEqual(live(falling), list(range(64)))

    def test_what_is_told_is_the_askers_own(self):
        made = form(2, [0], [0, 1], [])
        live(made).clear()
        self.assertEqual(live(made), [0, 1])

    def test_against_all_small_groves(self):
        # A live kind of at most three has a grove of at most three tags: no kind need be twice on a way down.
        chance = random.Random(1)
        groves = groves_up_to(3, ["a"])
        for _ in range(300):
            made = form(*random_parts(chance, 3, ["a"], 5))
            found = [kind for kind in range(made[0]) if any(is_of(made, kind, grove) for grove in groves)]
            self.assertEqual(live(made), found)


def trimmed_by_the_words(made):
    """A form trimmed, step by step as the document tells it."""
    many, starts, ends, rules = made
    alive = live(made)
    good = [rule for rule in rules if rule[2] in alive and rule[3] in alive]
    stay = {start for start in starts if start in alive}
    for _ in range(many):
        stay |= {kind for rule in good if rule[0] in stay for kind in rule[2:]}
    anew = {kind: number for number, kind in enumerate(sorted(stay))}
    return (len(stay), tuple(anew[kind] for kind in starts if kind in stay),
            tuple(anew[kind] for kind in ends if kind in stay),
            tuple((anew[q], tag, anew[p], anew[r]) for q, tag, p, r in good if q in stay))


class Trimmed(unittest.TestCase):
    def test_nothing_stays(self):
        self.assertEqual(trimmed(form(0, [], [], [])), (0, (), (), ()))
        self.assertEqual(trimmed(form(2, [], [0, 1], [(0, "a", 1, 1)])), (0, (), (), ()))
        self.assertEqual(trimmed(form(2, [0], [1], [(0, "a", 0, 1)])), (0, (), (), ()))

    def test_all_stays(self):
        made = form(2, [0], [1], [(0, "a", 1, 1), (1, "b", 0, 1)])
        self.assertEqual(trimmed(made), made)

    def test_ordinary(self):
        made = form(6, [1, 3], [0, 4, 5], [
            (1, "a", 4, 5),     # stays
            (1, "a", 2, 4),     # 2 isn't live
            (1, "b", 4, 2),
            (2, "a", 2, 4),
            (3, "a", 3, 4),     # 3, a start, isn't live
            (0, "a", 4, 4),     # nothing comes to 0
            (4, "c", 5, 1)])
        self.assertEqual(trimmed(made), (3, (0,), (1, 2), ((0, "a", 1, 2), (1, "c", 2, 0))))

    def test_one_does_not_come_through_a_rule_that_goes(self):
        # Kind 1 is live, but only a rule with an inner or a rest that isn't live leads to it.
        made = form(3, [0], [0, 1], [(0, "a", 1, 2), (0, "b", 2, 1)])
        self.assertEqual(trimmed(made), (1, (0,), (0,), ()))

    def test_against_the_words_of_the_document(self):
        chance = random.Random(2)
        groves = groves_up_to(4, ["a", "b"])
        for _ in range(200):
            made = form(*random_parts(chance, 5, ["a", "b"], 8))
            told = trimmed(made)
            self.assertEqual(told, trimmed_by_the_words(made))
            self.assertEqual(told, form(*told))
            self.assertEqual(trimmed(told), told)
            for grove in groves[::5]:
                self.assertEqual(any(is_of(made, start, grove) for start in made[1]),
                                 any(is_of(told, start, grove) for start in told[1]))

    def test_at_the_bounds(self):
        chance = random.Random(3)
        for _ in range(20):
            rules = [(chance.randrange(64), "a", chance.randrange(64), chance.randrange(64)) for _ in range(400)]
            made = form(64, [0, 5], list(range(60, 64)), rules)
            self.assertEqual(trimmed(made), trimmed_by_the_words(made))


if __name__ == "__main__":
    unittest.main()
