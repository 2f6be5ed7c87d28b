import random
import unittest

from formgrove.changers import changer
from formgrove.errors import NoGrove, NotStraight
from formgrove.stream import Stream, straight
from samples import (become, bounds, flat, groves_up_to, kids_in, nested, plain_grove, random_changer,
                     random_straight, spelled)

KIDS = ("kids", 0)
BAD = ["", "A", "abcdefghi", "a b", "//", "/ ", "a/", "0", "{}", "(", "a1"]


def tag(name, *parts):
    return ("tag", name, parts)


def streamed(made, words):
    """All words that come of words."""
    stream = Stream(made)
    return [come for word in words for come in stream.take(word)]


def common_beginning(lists):
    """The longest list with which all lists begin."""
    found = []
    for words in zip(*lists):
        if len(set(words)) > 1:
            break
        found.append(words[0])
    return found


def goings_on(words):
    """Some groves whose words begin with some words: some open tags are ended, then comes a tag without a rule or
    none, then all ends."""
    height = sum(-1 if word == "/" else 1 for word in words)
    found = []
    for ended in range(height + 1):
        for more in [[], ["x", "/"], ["y", "/"]]:
            found.append(plain_grove(words + ["/"] * ended + more + ["/"] * (height - ended)))
    return found


class Straight(unittest.TestCase):
    def test_ordinary(self):
        for rules, wanted in [([], True), ([(0, "a", ())], True), ([(0, "a", (KIDS,))], True),
                              ([(0, "a", (KIDS, KIDS))], False), ([(0, "a", (KIDS, tag("b"), ("kids", 1)))], False),
                              ([(0, "a", (tag("b", tag("c", KIDS)),))], True),
                              ([(0, "a", (tag("b", tag("c", KIDS)), KIDS))], False),
                              ([(0, "a", (tag("b", KIDS), tag("c", ("kids", 1))))], False),
                              ([(0, "a", (tag("b", KIDS, tag("c", tag("d", KIDS))),))], False),
                              ([(0, "a", (tag("b"), tag("c", tag("d"))))], True),
                              ([(0, "a", (KIDS,)), (0, "b", (KIDS,)), (1, "a", (("kids", 1),))], True),
                              ([(0, "a", (KIDS,)), (0, "b", ()), (1, "z", (KIDS, KIDS))], False)]:
            made = changer(2, rules)
            self.assertIs(straight(made), wanted)
            if wanted:
                self.assertEqual(Stream(made).height(), 0)
            else:
                with self.assertRaises(NotStraight):
                    Stream(made)

    def test_random(self):
        chance = random.Random(70)
        seen = set()
        for _ in range(200):
            made = random_changer(chance, chance.randrange(1, 5), ["a"], 4)
            wanted = all(kids_in(parts) <= 1 for mode, name, parts in made[1])
            seen.add(wanted)
            self.assertIs(straight(made), wanted)
        self.assertEqual(seen, {True, False})


class Told(unittest.TestCase):
    def follow(self, made, steps):
        """Take words, with what comes of each, what is owed behind it, and how many tags are open."""
        stream = Stream(made)
        for word, come, owed, height in steps:
            self.assertEqual(stream.take(word), come.split())
            self.assertEqual(stream.owed(), owed.split())
            self.assertEqual(stream.height(), height)

    def test_at_first(self):
        stream = Stream((1, ()))
        self.assertEqual((stream.height(), stream.owed()), (0, []))

    def test_without_rules(self):
        self.follow((3, ()), [("a", "a", "/", 1), ("b", "b", "/ /", 2), ("/", "/", "/", 1), ("c", "c", "/ /", 2),
                              ("/", "/", "/", 1), ("/", "/", "", 0), ("a", "a", "/", 1)])

    def test_with_kids(self):
        made = changer(1, [(0, "a", (tag("p"), tag("q", tag("r"), KIDS, tag("s")), tag("t")))])
        self.follow(made, [("a", "p / q r /", "s / / t /", 1), ("b", "b", "/ s / / t /", 2),
                           ("a", "p / q r /", "s / / t / / s / / t /", 3), ("/", "s / / t /", "/ s / / t /", 2),
                           ("/", "/", "s / / t /", 1), ("/", "s / / t /", "", 0)])

    def test_kids_alone(self):
        self.follow(changer(1, [(0, "a", (KIDS,))]), [("a", "", "", 1), ("b", "b", "/", 2), ("/", "/", "", 1),
                                                      ("/", "", "", 0)])

    def test_without_kids(self):
        made = changer(1, [(0, "a", (tag("p", tag("q")), tag("r"))), (0, "b", ())])
        self.follow(made, [("a", "p q / / r /", "", 1), ("c", "", "", 2), ("a", "", "", 3), ("/", "", "", 2),
                           ("/", "", "", 1), ("/", "", "", 0), ("b", "", "", 1), ("c", "", "", 2), ("/", "", "", 1),
                           ("/", "", "", 0), ("c", "c", "/", 1), ("b", "", "/", 2), ("/", "", "/", 1),
                           ("/", "/", "", 0)])

    def test_several_modes(self):
        made = changer(4, [(0, "a", (tag("x", ("kids", 3)),)), (3, "a", (tag("y"), ("kids", 1), tag("y"))),
                           (1, "a", (tag("z", KIDS),)), (3, "b", (tag("w"),))])
        self.follow(made, [("a", "x", "/", 1), ("c", "c", "/ /", 2), ("a", "y /", "y / / /", 3),
                           ("b", "b", "/ y / / /", 4), ("a", "z", "/ / y / / /", 5), ("a", "x", "/ / / y / / /", 6),
                           ("b", "w /", "/ / / y / / /", 7), ("a", "", "/ / / y / / /", 8),
                           ("/", "", "/ / / y / / /", 7), ("/", "", "/ / / y / / /", 6), ("/", "/", "/ / y / / /", 5),
                           ("/", "/", "/ y / / /", 4), ("/", "/", "y / / /", 3), ("/", "y /", "/ /", 2),
                           ("/", "/", "/", 1), ("/", "/", "", 0)])

    def test_what_comes_of_each_grove(self):
        chance = random.Random(71)
        groves = groves_up_to(4, ["a", "b"])
        for _ in range(80):
            made = random_straight(chance, chance.randrange(1, 5), ["a", "b"])
            for grove in chance.sample(groves, 25):
                self.assertEqual(streamed(made, spelled(grove)), spelled(become(made, grove)))

    def test_no_word_too_late_and_none_too_early(self):
        chance = random.Random(72)
        groves = groves_up_to(4, ["a", "b"])
        for _ in range(60):
            made = random_straight(chance, chance.randrange(1, 4), ["a", "b"])
            for grove in chance.sample(groves, 8):
                words = spelled(grove)
                stream = Stream(made)
                came = []
                for count, word in enumerate(words):
                    came += stream.take(word)
                    taken = words[:count + 1]
                    lists = [spelled(become(made, other)) for other in goings_on(taken)]
                    self.assertEqual(came, common_beginning(lists))
                    height = sum(-1 if each == "/" else 1 for each in taken)
                    self.assertEqual(came + stream.owed(),
                                     spelled(become(made, plain_grove(taken + ["/"] * height))))

    def test_it_begins_all_that_may_come(self):
        chance = random.Random(73)
        groves = groves_up_to(4, ["a", "b"])
        for _ in range(6):
            made = random_straight(chance, chance.randrange(1, 4), ["a", "b"])
            for grove in chance.sample(groves, 150):
                words = spelled(grove)
                for count in range(len(words) + 1):
                    came = streamed(made, words[:count])
                    self.assertEqual(spelled(become(made, grove))[:len(came)], came)

    def test_bounds(self):
        made = changer(1, [(0, "deep", (tag("x", KIDS, tag("y")),))])
        self.assertEqual(streamed(made, spelled(bounds())), spelled(become(made, bounds())))
        stream = Stream(made)
        for _ in range(100):
            stream.take("deep")
        self.assertEqual(stream.height(), 100)
        self.assertEqual(stream.owed(), ["y", "/", "/"] * 100)

    def test_what_comes_may_be_greater(self):
        made = changer(1, [(0, "a", (tag("b"),) * 39 + (KIDS,))])
        self.assertEqual(len(streamed(made, spelled(flat(300)))), 300 * 78)
        self.assertEqual(streamed(made, spelled(nested(100))), ["b", "/"] * 3900)

    def test_what_is_told_is_the_askers_own(self):
        made = changer(1, [(0, "a", (tag("p"), KIDS, tag("q")))])
        stream = Stream(made)
        stream.take("a").append("z")
        stream.owed().clear()
        self.assertEqual(stream.owed(), ["q", "/"])
        self.assertEqual(stream.take("a"), ["p", "/"])
        told = stream.take("/")
        told.append("z")
        self.assertEqual(stream.owed(), ["q", "/"])
        self.assertEqual(stream.take("/"), ["q", "/"])
        other = Stream(made)
        self.assertEqual(other.take("a"), ["p", "/"])
        self.assertEqual((stream.height(), other.height()), (0, 1))


class Refused(unittest.TestCase):
    def refused(self, stream, word, place):
        with self.assertRaises(NoGrove) as caught:
            stream.take(word)
        self.assertEqual(caught.exception.place, place)

    def test_at_each_place(self):
        made = changer(2, [(0, "a", (tag("p"), ("kids", 1), tag("q"))), (1, "b", ()), (0, "b", (tag("c"),))])
        words = spelled((("a", (("b", flat(1)), ("c", ()))), ("b", flat(1)), ("c", flat(1))))
        plain = Stream(made)
        stream = Stream(made)
        for place, word in enumerate(words):
            for bad in BAD + (["/"] if stream.height() == 0 else []):
                self.refused(stream, bad, place)
            self.assertEqual(stream.height(), plain.height())
            self.assertEqual(stream.owed(), plain.owed())
            self.assertEqual(stream.take(word), plain.take(word))
        for bad in BAD + ["/"]:
            self.refused(stream, bad, len(words))

    def test_within_a_tag_of_which_nothing_comes(self):
        stream = Stream(changer(1, [(0, "a", ())]))
        self.refused(stream, "/", 0)
        for place, word in enumerate(["a", "b", "/"]):
            stream.take(word)
            self.refused(stream, "B", place + 1)
        stream.take("/")
        self.refused(stream, "/", 4)


if __name__ == "__main__":
    unittest.main()
