import random
import unittest

from formgrove.forms import form
from formgrove.judge import first_bad
from formgrove.reader import Reader
from samples import bounds, fitting, flat, groves_up_to, random_parts, spelled

# One tree `list` or more, each with one `item` within.
LISTS = form(3, [0], [2], [(0, "list", 1, 0), (0, "list", 1, 2), (1, "item", 2, 2)])
GOOD = ["list", "item", "/", "/", "list", "item", "/", "/"]


def begins(words, lists):
    return any(words == other[:len(words)] for other in lists)


class FirstBad(unittest.TestCase):
    def test_none_where_they_fit(self):
        self.assertIsNone(first_bad(LISTS, GOOD))
        self.assertIsNone(first_bad(LISTS, GOOD[:4]))
        self.assertIsNone(first_bad(form(1, [0], [0], []), []))

    def test_each_place(self):
        for place in range(len(GOOD)):
            for word in ["note", "", "LIST", "list item", "//"]:
                self.assertEqual(first_bad(LISTS, GOOD[:place] + [word] + GOOD[place + 1:]), place)
        self.assertEqual(first_bad(LISTS, ["/"]), 0)
        self.assertEqual(first_bad(LISTS, ["item", "/"]), 0)
        self.assertEqual(first_bad(LISTS, ["list", "/"]), 1)
        self.assertEqual(first_bad(LISTS, ["list", "item", "/", "item"]), 3)
        self.assertEqual(first_bad(LISTS, GOOD + ["/"]), len(GOOD))
        self.assertEqual(first_bad(LISTS, GOOD + ["item"]), len(GOOD))

    def test_behind_the_last_word(self):
        for count in [0, 1, 2, 3, 5, 6, 7]:
            self.assertEqual(first_bad(LISTS, GOOD[:count]), count)

    def test_only_the_first_one_counts(self):
        self.assertEqual(first_bad(LISTS, ["list", "bad", "bad", "item"]), 1)

    def test_a_form_that_no_grove_fits(self):
        for made in [form(0, [], [], []), form(1, [], [0], [(0, "a", 0, 0)]), form(1, [0], [], [(0, "a", 0, 0)])]:
            for words in [[], ["a"], ["a", "/"], ["/"], ["?"]]:
                self.assertEqual(first_bad(made, words), 0)

    def test_the_readers_own_answers(self):
        chance = random.Random(21)
        for _ in range(200):
            made = form(*random_parts(chance, 4, ["a", "b"], 10))
            words = [chance.choice(["a", "b", "/"]) for _ in range(chance.randrange(8))]
            reader = Reader(made)
            place = 0
            while place < len(words) and reader.take(words[place]):
                place += 1
            wanted = None if place == len(words) and reader.ends_well() else place
            self.assertEqual(first_bad(made, words), wanted)

    def test_against_all_small_groves(self):
        chance = random.Random(22)
        groves = groves_up_to(4, ["a", "b"])
        for _ in range(40):
            made = form(*random_parts(chance, 3, ["a", "b"], 8))
            good = [spelled(grove) for grove in fitting(made, groves)]
            for grove in groves:
                words = spelled(grove)
                place = first_bad(made, words)
                self.assertEqual(place is None, words in good)
                if place is not None:
                    # No small grove that fits goes on so, and up to there one that is perhaps greater does.
                    self.assertFalse(begins(words[:place + 1], good) and place < len(words))

    def test_the_place_is_not_told_too_early(self):
        # Groves that fit have at most two tags, so all of them are looked at.
        made = form(4, [0, 1], [3], [(0, "a", 2, 3), (1, "b", 3, 2), (2, "a", 3, 3), (2, "b", 3, 3)])
        good = [spelled(grove) for grove in fitting(made, groves_up_to(3, ["a", "b"]))]
        for grove in groves_up_to(3, ["a", "b"]):
            words = spelled(grove)
            places = [place for place in range(len(words)) if not begins(words[:place + 1], good)]
            wanted = None if words in good else min(places + [len(words)])
            self.assertEqual(first_bad(made, words), wanted)

    def test_great_ones(self):
        made = form(1, [0], [0], [(0, tag, 0, 0) for tag in ["a", "b", "c", "deep"]])
        self.assertIsNone(first_bad(made, spelled(bounds())))
        self.assertEqual(first_bad(made, ["a"] * 350 + ["/"] * 350 + ["/"]), 700)
        self.assertIsNone(first_bad(made, ["a"] * 350 + ["/"] * 350))
        self.assertEqual(first_bad(made, spelled(flat(300)) + ["d"]), 600)

    def test_what_is_handed_in_stays(self):
        words = list(GOOD)
        first_bad(LISTS, words)
        self.assertEqual(words, GOOD)


if __name__ == "__main__":
    unittest.main()
