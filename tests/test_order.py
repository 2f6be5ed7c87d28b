import unittest

from formgrove.order import before, least_among
from samples import bounds, flat, groves_up_to, nested, spelled


def key(grove):
    words = spelled(grove)
    return (words.count("/"), words)


class Before(unittest.TestCase):
    def test_fewer_tags_come_first(self):
        self.assertIs(before((), flat(1)), True)
        self.assertIs(before(flat(1), ()), False)
        self.assertIs(before(flat(1, "z"), flat(2, "a")), True)
        self.assertIs(before(flat(2, "a"), flat(1, "z")), False)
        self.assertIs(before(flat(299, "z"), bounds()), True)

    def test_of_as_many_the_words_decide(self):
        self.assertIs(before(flat(2), nested(2)), True)
        self.assertIs(before(nested(2), flat(2)), False)
        self.assertIs(before(flat(1, "ab"), flat(1, "b")), True)
        self.assertIs(before(flat(1, "a"), flat(1, "ab")), True)
        self.assertIs(before(flat(2, "b"), nested(2, "a")), False)

    def test_none_comes_before_itself(self):
        for grove in [(), flat(1), nested(3), bounds()]:
            self.assertIs(before(grove, grove), False)

    def test_at_the_bounds_the_last_tag_decides(self):
        one = flat(299) + flat(1, "b")
        other = flat(299) + flat(1, "c")
        self.assertIs(before(one, other), True)
        self.assertIs(before(other, one), False)

    def test_all_small_groves(self):
        groves = groves_up_to(3, ["a", "ab"])
        for one in groves:
            for other in groves:
                self.assertIs(before(one, other), key(one) < key(other))


class LeastAmong(unittest.TestCase):
    def test_of_none(self):
        self.assertIsNone(least_among([]))

    def test_of_one(self):
        self.assertEqual(least_among([()]), ())
        self.assertEqual(least_among([bounds()]), bounds())

    def test_of_some_wherever_the_least_stands(self):
        for groves in [[flat(2), nested(2), flat(1, "z")], [flat(1, "z"), nested(2)], [nested(2), flat(1, "z"), flat(2)]]:
            kept = list(groves)
            self.assertEqual(least_among(groves), flat(1, "z"))
            self.assertEqual(groves, kept)

    def test_of_doubles(self):
        self.assertEqual(least_among([flat(2), flat(2)]), flat(2))

    def test_of_all_small_groves(self):
        groves = sorted(groves_up_to(4, ["a", "b"]), key=key)
        for begin in range(0, len(groves), 7):
            self.assertEqual(least_among(groves[:begin - 1:-1] if begin else groves[::-1]), groves[begin])


if __name__ == "__main__":
    unittest.main()
