import random
import unittest

from formgrove.changers import changer
from formgrove.errors import NotStraight, TooMany
from formgrove.forms import form
from formgrove.joins import everything
from formgrove.judge import first_bad
from formgrove.pipe import Pipe
from formgrove.reader import Reader
from formgrove.runs import fits
from formgrove.safety import safe
from samples import become, fitting, groves_up_to, lively_form, random_straight, spelled

KIDS = ("kids", 0)
GROVES = groves_up_to(4, ["a", "b"])
# One tree `list` or more, each with one `item` or more within.
LISTS = form(4, [0], [2], [(0, "list", 1, 0), (0, "list", 1, 2), (1, "item", 2, 3), (1, "item", 2, 2),
                           (3, "item", 2, 2), (3, "item", 2, 3)])
# One tree `row` or two, with nothing within.
ROWS = form(3, [0], [2], [(0, "row", 2, 1), (0, "row", 2, 2), (1, "row", 2, 2)])
UNWRAP = changer(1, [(0, "list", (KIDS,)), (0, "item", (("tag", "row", (KIDS,)),))])


def state(pipe):
    return (pipe.came(), pipe.broken(), pipe.ends_well())


class Told(unittest.TestCase):
    def test_at_first(self):
        self.assertEqual(state(Pipe(UNWRAP, LISTS, ROWS)), ([], None, (False, False)))
        self.assertEqual(state(Pipe(UNWRAP, everything(["a"]), ROWS)), ([], None, (True, False)))
        self.assertEqual(state(Pipe(UNWRAP, LISTS, everything(["a"]))), ([], None, (False, True)))

    def test_ordinary(self):
        pipe = Pipe(UNWRAP, LISTS, ROWS)
        for word, come, ends in [("list", [], (False, False)), ("item", ["row"], (False, False)),
                                 ("/", ["row", "/"], (False, True)), ("/", ["row", "/"], (True, True)),
                                 ("list", ["row", "/"], (False, True)),
                                 ("item", ["row", "/", "row"], (False, False))]:
            self.assertIs(pipe.take(word), True)
            self.assertEqual(state(pipe), (come, None, ends))

    def test_words_that_are_not_taken(self):
        pipe = Pipe(UNWRAP, LISTS, ROWS)
        for word in ["list", "item", "/", "/"]:
            kept = state(pipe)
            for bad in ["x", "", "A", "row", "/ "] + (["/"] if word in ("list", "item") else ["list"]):
                self.assertIs(pipe.take(bad), False)
                self.assertEqual(state(pipe), kept)
            self.assertIs(pipe.take(word), True)
        self.assertEqual(pipe.came(), ["row", "/"])

    def test_broken_at_the_first_word_and_for_ever(self):
        pipe = Pipe(UNWRAP, LISTS, ROWS)
        for word in ["list", "item", "/", "item", "/"]:
            self.assertTrue(pipe.take(word))
        self.assertIsNone(pipe.broken())
        # The third row isn't wanted any more.
        self.assertTrue(pipe.take("item"))
        self.assertEqual(state(pipe), (["row", "/", "row", "/", "row"], 4, (False, False)))
        for word in ["/", "/", "list", "item", "/", "/"]:
            self.assertTrue(pipe.take(word))
            self.assertEqual(pipe.broken(), 4)
            self.assertIs(pipe.ends_well()[1], False)
        self.assertEqual(pipe.came(), ["row", "/"] * 4)
        self.assertEqual(pipe.ends_well(), (True, False))

    def test_broken_amid_the_words_of_one(self):
        many = changer(1, [(0, "a", (("tag", "row", ()),) * 5)])
        pipe = Pipe(many, everything(["a"]), ROWS)
        self.assertTrue(pipe.take("a"))
        self.assertEqual(state(pipe), (["row", "/"] * 5, 4, (False, False)))
        first = Pipe(changer(1, []), everything(["a"]), ROWS)
        first.take("a")
        self.assertEqual(state(first), (["a"], 0, (False, False)))

    def test_nothing_more_is_handed_on(self):
        # Behind the third row, what comes would fit again if the word that broke it had not come.
        pipe = Pipe(changer(1, []), everything(["row", "x"]), form(2, [0], [1], [(0, "row", 1, 1)]))
        for word in ["x", "/", "row", "/"]:
            self.assertTrue(pipe.take(word))
        self.assertEqual(state(pipe), (["x", "/", "row", "/"], 0, (True, False)))

    def test_not_straight(self):
        for parts in [(KIDS, KIDS), (("tag", "b", (KIDS,)), KIDS)]:
            with self.assertRaises(NotStraight):
                Pipe(changer(1, [(0, "a", parts)]), LISTS, ROWS)

    def test_as_the_readers_say(self):
        chance = random.Random(74)
        seen = set()
        for _ in range(150):
            made = random_straight(chance, chance.randrange(1, 4), ["a", "b"])
            one = lively_form(chance, 3, ["a", "b"], 9)
            other = lively_form(chance, 3, ["a", "b"], 14)
            pipe = Pipe(made, one, other)
            reader = Reader(one)
            words = []
            for word in spelled(chance.choice(GROVES)):
                taken = reader.take(word)
                self.assertIs(pipe.take(word), taken)
                words += [word] if taken else []
                came = pipe.came()
                place = first_bad(other, came)
                broken = place if place is not None and place < len(came) else None
                self.assertEqual(pipe.broken(), broken)
                self.assertEqual(pipe.ends_well(), (first_bad(one, words) is None, place is None))
                seen.add(broken is None)
        self.assertEqual(seen, {True, False})

    def test_what_is_told_is_the_askers_own(self):
        pipe = Pipe(UNWRAP, LISTS, ROWS)
        pipe.take("list")
        pipe.take("item")
        pipe.came().clear()
        self.assertEqual(pipe.came(), ["row"])
        told = pipe.came()
        pipe.take("/")
        self.assertEqual(told, ["row"])
        self.assertEqual(pipe.came(), ["row", "/"])


class SafeOnes(unittest.TestCase):
    def test_never_broken_behind_a_safe_changer(self):
        chance = random.Random(75)
        count = 0
        while count < 40:
            made = random_straight(chance, chance.randrange(1, 4), ["a", "b"], 2)
            one = lively_form(chance, 3, ["a", "b"], 6)
            other = chance.choice([everything(["a", "b"]), lively_form(chance, 3, ["a", "b"], 16)])
            try:
                told = safe(made, one, other)
            except TooMany:
                continue
            if told[0] == "safe":
                count += 1
                for grove in fitting(one, GROVES)[:40]:
                    pipe = Pipe(made, one, other)
                    for word in spelled(grove):
                        self.assertTrue(pipe.take(word))
                        self.assertIsNone(pipe.broken())
                    self.assertEqual(pipe.ends_well(), (True, True))
                    self.assertEqual(pipe.came(), spelled(become(made, grove)))
                    self.assertTrue(fits(other, become(made, grove)))

    def test_an_unsafe_one_spoils_the_grove_that_is_told(self):
        chance = random.Random(76)
        seen = set()
        for _ in range(120):
            made = random_straight(chance, chance.randrange(1, 4), ["a", "b"], 2)
            one = lively_form(chance, 3, ["a", "b"], 6)
            other = lively_form(chance, 3, ["a", "b"], 12)
            try:
                told = safe(made, one, other)
            except TooMany:
                continue
            if told[0] == "unsafe":
                pipe = Pipe(made, one, other)
                for word in spelled(told[1]):
                    self.assertTrue(pipe.take(word))
                self.assertEqual(pipe.ends_well(), (True, False))
                seen.add(pipe.broken() is None)
        self.assertEqual(seen, {True, False})


if __name__ == "__main__":
    unittest.main()
