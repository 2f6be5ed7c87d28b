import itertools
import random
import unittest

from formgrove.changes import distance, done, price
from formgrove.errors import NoChange
from formgrove.texts import read
from samples import flat, groves_up_to, nested, plain_grove, spelled, variants

TAGS = ["a", "b"]


def tree(text):
    return read(text)[0]


def is_changes(words, changes):
    """Whether a list of tuples is one of changes, by the document's words."""
    for change in changes:
        label, place = change[:2]
        if not 0 <= place <= len(words):
            return False
        if label != "put" and (place == len(words) or words[place] == "/"):
            return False
        if label == "name" and not (change[2].isalpha() and change[2].islower() and len(change[2]) <= 8):
            return False
        if label == "cut":
            height = 0
            end = place
            while height or end == place:
                height += -1 if words[end] == "/" else 1
                end += 1
            if any(place < other[1] < end for other in changes):
                return False
    for one, other in zip(changes, changes[1:]):
        if one[1] > other[1] or (one[1] == other[1] and one[0] != "put"):
            return False
    return True


class Done(unittest.TestCase):
    def check(self, text, changes, made, cost):
        grove = read(text)
        kept = list(changes)
        self.assertEqual(done(grove, changes), read(made))
        self.assertEqual(price(grove, changes), cost)
        self.assertEqual(changes, kept)

    def test_none(self):
        for text in ["", "a", "a(b) c"]:
            self.check(text, [], text, 0)

    def test_names(self):
        self.check("a(b) c", [("name", 0, "x")], "x(b) c", 1)
        self.check("a(b) c", [("name", 1, "abcdefgh")], "a(abcdefgh) c", 1)
        self.check("a(b) c", [("name", 0, "x"), ("name", 1, "y"), ("name", 4, "z")], "x(y) z", 3)
        self.check("a(b) c", [("name", 4, "c")], "a(b) c", 1)

    def test_cuts(self):
        self.check("a(b) c", [("cut", 0)], "c", 2)
        self.check("a(b) c", [("cut", 1)], "a c", 1)
        self.check("a(b) c", [("cut", 0), ("cut", 4)], "", 3)
        self.check("a(b(c d) e)", [("cut", 1)], "a(e)", 3)

    def test_puts(self):
        self.check("", [("put", 0, tree("a(b c)"))], "a(b c)", 3)
        for place, made in enumerate(["x(y) a(b) c", "a(x(y) b) c", "a(b(x(y))) c", "a(b x(y)) c", "a(b) x(y) c",
                                      "a(b) c(x(y))", "a(b) c x(y)"]):
            self.check("a(b) c", [("put", place, tree("x(y)"))], made, 2)

    def test_several_puts_at_one_place(self):
        self.check("a", [("put", 0, tree("x")), ("put", 0, tree("y(z)")), ("put", 0, tree("x"))], "x y(z) x a", 4)
        self.check("a", [("put", 1, tree("x")), ("put", 1, tree("y"))], "a(x y)", 2)
        self.check("a", [("put", 2, tree("x")), ("put", 2, tree("y"))], "a x y", 2)
        self.check("", [("put", 0, tree("x")), ("put", 0, tree("y"))], "x y", 2)

    def test_a_put_ahead_of_a_cut_and_a_name(self):
        self.check("a(b) c", [("put", 0, tree("x")), ("cut", 0)], "x c", 3)
        self.check("a(b) c", [("put", 0, tree("x")), ("name", 0, "y")], "x y(b) c", 2)
        self.check("a(b) c", [("put", 0, tree("x")), ("put", 0, tree("x")), ("cut", 0), ("put", 4, tree("y")),
                              ("cut", 4), ("put", 6, tree("z"))], "x x y z", 7)

    def test_changes_within_what_is_named(self):
        self.check("a(b(c))", [("name", 0, "x"), ("put", 1, tree("y")), ("name", 1, "z"), ("cut", 2)], "x(y z)", 4)

    def test_places_of_the_grove_as_it_is_handed_in(self):
        self.check("a b c", [("put", 0, tree("p(q r s)")), ("cut", 0), ("name", 2, "x"), ("cut", 4)], "p(q r s) x", 7)

    def test_great_ones(self):
        grove = nested(100) + flat(200, "b")
        changes = [("put", 100, tree("x")), ("name", 200, "c"), ("cut", 598), ("put", 600, ("d", flat(300)))]
        made = done(grove, changes)
        self.assertEqual(spelled(made), spelled(grove)[:100] + ["x", "/"] + spelled(grove)[100:200] + ["c"]
                         + spelled(grove)[201:598] + ["d"] + ["a", "/"] * 300 + ["/"])
        self.assertEqual(price(grove, changes), 304)

    def test_all_small_ones(self):
        for grove in groves_up_to(3, ["a"]):
            for cost, changes, made in variants(grove, 0, 2, TAGS):
                self.assertEqual(done(grove, changes), made)
                self.assertEqual(price(grove, changes), cost)


class Refused(unittest.TestCase):
    def refused(self, text, changes):
        for ask in [done, price]:
            with self.assertRaises(NoChange):
                ask(read(text), changes)

    def test_a_place_that_is_none(self):
        for text, count in [("", 0), ("a", 2), ("a(b) c", 6)]:
            for place in [-1, -count, count + 1, count + 2, 10 ** 59, -10 ** 59]:
                if place != 0:
                    for change in [("put", place, tree("x")), ("cut", place), ("name", place, "x")]:
                        self.refused(text, [change])

    def test_not_at_a_tag(self):
        for text, places in [("", [0]), ("a", [1, 2]), ("a(b) c", [2, 3, 5, 6])]:
            for place in places:
                self.refused(text, [("cut", place)])
                self.refused(text, [("name", place, "x")])
                self.assertEqual(price(read(text), [("put", place, tree("x"))]), 1)

    def test_a_name_that_is_no_tag(self):
        for tag in ["", "A", "abcdefghi", "a b", "/", "a1", "a\n"]:
            self.refused("a(b) c", [("name", 0, tag)])
            self.refused("a(b) c", [("cut", 0), ("name", 4, tag)])

    def test_another_order(self):
        for changes in [[("name", 1, "x"), ("name", 0, "x")], [("cut", 4), ("cut", 0)],
                        [("put", 6, tree("x")), ("put", 0, tree("x"))], [("name", 0, "x"), ("put", 0, tree("x"))],
                        [("cut", 0), ("put", 0, tree("x"))], [("cut", 4), ("name", 1, "x")],
                        [("put", 0, tree("x")), ("name", 0, "x"), ("put", 0, tree("x"))]]:
            self.refused("a(b) c", changes)

    def test_two_others_at_one_place(self):
        for one in [("cut", 4), ("name", 4, "x"), ("name", 4, "c")]:
            for other in [("cut", 4), ("name", 4, "x"), ("name", 4, "c")]:
                self.refused("a(b) c", [one, other])
                self.refused("a(b) c", [("put", 4, tree("x")), one, other])

    def test_in_a_tree_that_goes(self):
        for change in [("put", 1, tree("x")), ("put", 2, tree("x")), ("put", 3, tree("x")), ("cut", 1),
                       ("name", 1, "x")]:
            self.refused("a(b) c", [("cut", 0), change])
            self.refused("a(b) c", [("put", 0, tree("x")), ("cut", 0), change, ("put", 6, tree("x"))])
        self.assertEqual(done(read("a(b) c"), [("cut", 0), ("put", 4, tree("x"))]), read("x c"))
        self.assertEqual(done(read("a(b) c"), [("put", 3, tree("x")), ("cut", 4)]), read("a(b x)"))

    def test_all_lists_of_two_and_three(self):
        for text in ["", "a", "a(b)", "a b"]:
            words = spelled(read(text))
            single = [change for place in range(-1, len(words) + 2)
                      for change in [("put", place, tree("x")), ("cut", place), ("name", place, "x")]]
            seen = set()
            for count in [0, 1, 2, 3]:
                for changes in itertools.product(single, repeat=count):
                    wanted = is_changes(words, changes)
                    seen.add(wanted)
                    if wanted:
                        cost = price(read(text), list(changes))
                        self.assertGreaterEqual(cost, count)
                        self.assertEqual(len(spelled(done(read(text), list(changes)))) % 2, 0)
                    else:
                        self.refused(text, list(changes))
            self.assertEqual(seen, {True, False})


def plain_distance(one, other):
    """The least price, by all ways to begin: a cut, a put, or one tree kept as the other."""
    if not one or not other:
        return len(spelled(one + other)) // 2
    (tag, within), (mate, mates) = one[0], other[0]
    return min(len(spelled(one[:1])) // 2 + plain_distance(one[1:], other),
               len(spelled(other[:1])) // 2 + plain_distance(one, other[1:]),
               (tag != mate) + plain_distance(within, mates) + plain_distance(one[1:], other[1:]))


class Distance(unittest.TestCase):
    def test_ordinary(self):
        for one, other, told in [("", "", 0), ("a", "", 1), ("", "a(b)", 2), ("a", "a", 0), ("a", "b", 1),
                                 ("a(b) c", "a c", 1), ("a(b) c", "c", 2), ("a(b) c", "a(c) b", 2),
                                 ("a(b(c))", "b(c)", 3), ("a b c", "b c d", 2), ("a(b c)", "b c", 4)]:
            self.assertEqual(distance(read(one), read(other)), told)
            self.assertEqual(distance(read(other), read(one)), told)

    def test_of_alike_groves_and_of_nothing(self):
        for grove in groves_up_to(3, TAGS) + [flat(60), nested(60)]:
            self.assertEqual(distance(grove, grove), 0)
            self.assertEqual(distance(grove, ()), len(spelled(grove)) // 2)
            self.assertEqual(distance((), grove), len(spelled(grove)) // 2)

    def test_against_all_changes_of_small_groves(self):
        for grove in groves_up_to(3, ["a"]) + [(("b", flat(1)),), flat(1) + flat(1, "b")]:
            least = {}
            for cost, changes, made in variants(grove, 0, 3, TAGS):
                least[made] = min(cost, least.get(made, cost))
            self.assertGreater(len(least), 50)
            for other in groves_up_to(4, TAGS):
                told = distance(grove, other)
                self.assertEqual(told if told <= 3 else None, least.get(other))

    def test_both_ways_round(self):
        chance = random.Random(51)
        groves = groves_up_to(5, TAGS)
        for _ in range(300):
            one, other = chance.choice(groves), chance.choice(groves)
            told = distance(one, other)
            self.assertEqual(told, plain_distance(one, other))
            self.assertEqual(told, distance(other, one))

    def test_sixty_tags(self):
        self.assertEqual(distance(flat(60), flat(60, "b")), 60)
        self.assertEqual(distance(nested(60), nested(60, "b")), 60)
        self.assertEqual(distance(flat(60), nested(60)), 118)
        self.assertEqual(distance(nested(30) + flat(30), flat(30) + nested(30)), 58)
        self.assertEqual(distance(flat(60), flat(59)), 1)
        self.assertEqual(distance(nested(60), nested(59)), 1)
        chance = random.Random(52)
        for _ in range(5):
            pair = []
            for _ in range(2):
                words = []
                height = 0
                while len(words) < 60 or height:
                    up = not height or (len(words) + height < 120 and chance.random() < 0.5)
                    words.append(chance.choice(TAGS) if up else "/")
                    height += 1 if up else -1
                pair.append(words)
            one, other = [plain_grove(words) for words in pair]
            told = distance(one, other)
            self.assertEqual(told, distance(other, one))
            self.assertLessEqual(told, (len(pair[0]) + len(pair[1])) // 2)
            self.assertGreaterEqual(told, abs(len(pair[0]) - len(pair[1])) // 2)


if __name__ == "__main__":
    unittest.main()
