import itertools
import unittest

from formgrove.errors import NoGrove
from formgrove.texts import read, shown
from samples import bounds, flat, groves_up_to, nested, written

ORDINARY = (("a", (("b", ()), ("c", (("d", ()),)))), ("e", ()))
ORDINARY_TEXT = "a(b c(d)) e"


class WrittenAndRead(unittest.TestCase):
    def test_ordinary(self):
        self.assertEqual(shown(ORDINARY), ORDINARY_TEXT)
        self.assertEqual(read(ORDINARY_TEXT), ORDINARY)

    def test_nothing(self):
        self.assertEqual(shown(()), "")
        self.assertEqual(read(""), ())

    def test_all_small_groves(self):
        for grove in groves_up_to(4, ["a", "bc"]):
            self.assertEqual(shown(grove), written(grove))
            self.assertEqual(read(written(grove)), grove)

    def test_at_the_bounds(self):
        groves = [flat(300), nested(100), bounds(), flat(300, "abcdefgh"), nested(100, "abcdefgh")]
        for grove in groves:
            self.assertEqual(shown(grove), written(grove))
            self.assertEqual(read(shown(grove)), grove)

    def test_texts_as_long_as_they_may_be(self):
        deep = "a(" * 1333 + "a" + ")" * 1333
        self.assertEqual(len(deep), 4000)
        self.assertEqual(shown(read(deep)), deep)
        wide = "a " * 1999 + "ab"
        self.assertEqual(len(wide), 4000)
        self.assertEqual(shown(read(wide)), wide)


class Refusals(unittest.TestCase):
    def place(self, text):
        with self.assertRaises(NoGrove, msg=text) as caught:
            read(text)
        self.assertIs(type(caught.exception.place), int)
        return caught.exception.place

    def test_wrong_at_the_first_sign(self):
        for text in [" ", "(", ")", "A", "/", "1", " a", "(a)", "{}", "Aa(b"]:
            self.assertEqual(self.place(text), 0, text)

    def test_wrong_in_the_middle(self):
        cases = [("a  b", 2), ("a()", 2), ("a(b)c", 4), ("a(b)(c)", 4), ("a)b", 1), ("a( b)", 2), ("a(b )", 4),
                 ("aB c", 1), ("a (b)", 2), ("a/b", 1), ("a(b)) c", 4), ("abcdefghi j", 8), ("a b,c", 3),
                 ("a(abcdefghi)", 10)]
        for text, place in cases:
            self.assertEqual(self.place(text), place, text)

    def test_wrong_at_the_last_sign(self):
        cases = [("abcdefghi", 8), ("a)", 1), ("a(b))", 4), ("a b(c)d", 6), ("a(", None), ("ab1", 2), ("a(b)(", 4)]
        for text, place in cases:
            self.assertEqual(self.place(text), len(text) if place is None else place, text)

    def test_texts_that_stop_too_early(self):
        for text in ["a ", "a(", "a(b", "a(b ", "a(b(c)", "a(b) ", "a(" * 2000, "a(b) " * 800, "abcdefgh("]:
            self.assertEqual(self.place(text), len(text), text)

    def test_each_sign_behind_each_beginning(self):
        # What may follow is told by the document for each of these beginnings.
        letters = "abcdefghijklmnopqrstuvwxyz"
        may_follow = [("", letters), ("a", letters + " ("), ("abcdefgh", " ("), ("a ", letters), ("a(", letters),
                      ("a(b", letters + " ()"), ("a(abcdefgh", " ()"), ("a(b)", " "), ("a(b(c)", " )"),
                      ("a(b(c))", " "), ("a(b ", letters)]
        for beginning, signs in may_follow:
            for number in range(32, 127):
                sign = chr(number)
                if sign not in signs:
                    self.assertEqual(self.place(beginning + sign + "a"), len(beginning))
                elif sign in " (":
                    self.assertEqual(self.place(beginning + sign), len(beginning) + 1)

    def test_at_the_bounds(self):
        text = written(bounds())
        self.assertEqual(self.place(text + ")"), len(text))
        self.assertEqual(self.place(text + " "), len(text) + 1)
        self.assertEqual(self.place("B" + text), 0)
        self.assertEqual(self.place("a" * 4000), 8)
        self.assertEqual(self.place("a" + ")" * 3999), 1)

    def test_all_short_texts(self):
        texts = ["".join(signs) for count in range(7) for signs in itertools.product("a ()B", repeat=count)]
        whole = {written(grove) for grove in groves_up_to(4, ["a", "aa", "aaa"])}
        beginnings = {text[:count] for text in whole for count in range(len(text) + 1)}
        for text in texts:
            if "aaaa" in text:
                continue
            if text in whole:
                self.assertEqual(written(read(text)), text)
                continue
            bad = [place for place in range(len(text)) if text[:place + 1] not in beginnings]
            self.assertEqual(self.place(text), (bad + [len(text)])[0], text)


if __name__ == "__main__":
    unittest.main()
