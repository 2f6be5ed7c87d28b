import itertools
import unittest

from formgrove.errors import NoGrove
from formgrove.words import closings, depth, end_of, grove_of, is_tag, size, words_of
from samples import bounds, flat, groves_up_to, nested, spelled

ORDINARY = (("a", (("b", ()),)), ("c", ()))
ORDINARY_WORDS = ["a", "b", "/", "/", "c", "/"]


class Tags(unittest.TestCase):
    def test_one_to_eight_small_letters(self):
        for text in ["a", "z", "ab", "item", "abcdefgh", "zzzzzzzz"]:
            self.assertIs(is_tag(text), True, text)

    def test_other_texts_are_no_tags(self):
        wrong = ["", "abcdefghi", "a" * 40, "a" * 4000, "A", "aB", "Ab", "ABC", "a b", " a", "a ", " ", "/",
                 "a/", "a1", "1", "a-b", "a_b", "(", "`", "{", "a{", "~", "@", "[", "a`"]
        for text in wrong:
            self.assertIs(is_tag(text), False, text)

    def test_every_sign(self):
        for number in range(32, 127):
            sign = chr(number)
            small = sign in "abcdefghijklmnopqrstuvwxyz"
            for text in [sign, "a" + sign, sign + "a", "a" + sign + "a"]:
                self.assertIs(is_tag(text), small, text)


class Words(unittest.TestCase):
    def test_ordinary(self):
        self.assertEqual(words_of(ORDINARY), ORDINARY_WORDS)
        self.assertEqual(grove_of(ORDINARY_WORDS), ORDINARY)

    def test_nothing(self):
        self.assertEqual(words_of(()), [])
        self.assertEqual(grove_of([]), ())

    def test_all_small_groves(self):
        for grove in groves_up_to(4, ["a", "bc"]):
            self.assertEqual(words_of(grove), spelled(grove))
            self.assertEqual(grove_of(spelled(grove)), grove)

    def test_at_the_bounds(self):
        for grove in [flat(300), nested(100), bounds(), flat(1, "abcdefgh")]:
            words = words_of(grove)
            self.assertEqual(words, spelled(grove))
            self.assertEqual(grove_of(words), grove)

    def test_as_long_as_lists_may_be(self):
        words = ["a"] * 350 + ["/"] * 350
        self.assertEqual(words_of(grove_of(words)), words)

    def test_the_told_things_are_of_their_kinds(self):
        self.assertIs(type(words_of(ORDINARY)), list)
        grove = grove_of(ORDINARY_WORDS)
        self.assertIs(type(grove), tuple)
        self.assertIs(type(grove[0]), tuple)
        self.assertIs(type(grove[0][1]), tuple)


class Measures(unittest.TestCase):
    def test_size(self):
        self.assertEqual([size(()), size(ORDINARY), size(flat(300)), size(nested(100)), size(bounds())],
                         [0, 3, 300, 100, 300])

    def test_depth(self):
        self.assertEqual([depth(()), depth(ORDINARY), depth(flat(300)), depth(nested(100)), depth(bounds())],
                         [0, 2, 1, 100, 100])

    def test_the_greatest_depth_counts_wherever_it_stands(self):
        self.assertEqual(depth(nested(1) + nested(3) + nested(2)), 3)
        self.assertEqual(depth((("a", nested(2) + nested(4)),)), 5)


class Ends(unittest.TestCase):
    def test_ordinary(self):
        self.assertEqual([end_of(ORDINARY_WORDS, place) for place in [0, 1, 4]], [3, 2, 5])

    def test_each_tag_of_all_small_groves(self):
        for grove in groves_up_to(4, ["a"]):
            words = spelled(grove)
            tags = [place for place, word in enumerate(words) if word != "/"]
            for place in tags:
                end = end_of(words, place)
                grove_of(words[place:end + 1])
                self.assertEqual(len(grove_of(words[place:end + 1])), 1)
            self.assertEqual(sorted(closings(words)), tags)

    def test_at_the_bounds(self):
        words = spelled(nested(100))
        self.assertEqual([end_of(words, place) for place in range(100)], list(range(199, 99, -1)))
        words = spelled(flat(300))
        self.assertEqual([end_of(words, place) for place in range(0, 600, 2)], list(range(1, 600, 2)))


class Refusals(unittest.TestCase):
    def place(self, words):
        kept = list(words)
        with self.assertRaises(NoGrove) as caught:
            grove_of(words)
        self.assertEqual(words, kept)
        self.assertIs(type(caught.exception.place), int)
        return caught.exception.place

    def test_wrong_at_the_first_a_middle_and_the_last_place(self):
        words = spelled(bounds())
        for wrong in ["", "abcdefghi", "A", "aB", "a b", "a1", "//", " ", "(", "~", "x" * 40]:
            for place in [0, 1, 300, 598, 599]:
                self.assertEqual(self.place(words[:place] + [wrong] + words[place + 1:]), place)
            self.assertEqual(self.place(words + [wrong]), 600)

    def test_an_end_too_many(self):
        self.assertEqual(self.place(["/"]), 0)
        self.assertEqual(self.place(["a", "/", "/"]), 2)
        self.assertEqual(self.place(["a", "/", "/", "b", "/"]), 2)
        self.assertEqual(self.place(spelled(flat(300)) + ["/"]), 600)

    def test_the_first_wrong_one_counts(self):
        self.assertEqual(self.place(["a", "B", "C", "/"]), 1)
        self.assertEqual(self.place(["a", "B"]), 1)

    def test_words_that_stop_too_early(self):
        self.assertEqual(self.place(["a"]), 1)
        self.assertEqual(self.place(["a", "b", "/"]), 3)
        self.assertEqual(self.place(["a"] * 700), 700)
        words = spelled(nested(100))
        for count in range(1, 200):
            self.assertEqual(self.place(words[:count]), count)

    def test_all_short_lists(self):
        signs = ["a", "/", "B"]
        lists = [list(words) for count in range(9) for words in itertools.product(signs, repeat=count)]
        beginnings = set()
        whole = set()
        for grove in groves_up_to(8, ["a"]):
            words = tuple(spelled(grove))
            whole.add(words)
            for count in range(len(words) + 1):
                beginnings.add(words[:count])
        for words in lists:
            if tuple(words) in whole:
                self.assertEqual(spelled(grove_of(words)), words)
                continue
            bad = [place for place in range(len(words)) if tuple(words[:place + 1]) not in beginnings]
            self.assertEqual(self.place(words), (bad + [len(words)])[0])


class TheAskersOwn(unittest.TestCase):
    def test_what_is_handed_in_stays(self):
        words = list(ORDINARY_WORDS)
        grove_of(words)
        end_of(words, 0)
        self.assertEqual(words, ORDINARY_WORDS)

    def test_what_is_told_can_be_changed(self):
        told = words_of(ORDINARY)
        told[0] = "x"
        told.clear()
        self.assertEqual(words_of(ORDINARY), ORDINARY_WORDS)
        words = list(ORDINARY_WORDS)
        grove = grove_of(words)
        words.clear()
        self.assertEqual(grove, ORDINARY)


if __name__ == "__main__":
    unittest.main()
