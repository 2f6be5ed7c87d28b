import random
import unittest

from formgrove.books import read
from formgrove.meaning import ends, meant
from formgrove.texts import read as grove_of
from samples import NIL, flat, groves_up_to, nested, random_book, random_expr, told_groves

BOOK = read("A = B | c(A); B = a b?; C = {}")
A = ("tag", "a", NIL)
B = ("tag", "b", NIL)


def led(text, row, at, book=BOOK):
    """Where the expression of a text leads in the row of another."""
    return ends(book, read("X = " + text + "; A = a; B = a; C = a")[0][1], grove_of(row), at)


class Words(unittest.TestCase):
    """Each of the eight words of an expression, alone, from each gap."""

    def told(self, expr, row, wanted):
        grove = grove_of(row)
        self.assertEqual([ends(BOOK, expr, grove, at) for at in range(len(grove) + 1)], wanted)

    def test_nil(self):
        self.told(NIL, "", [[0]])
        self.told(NIL, "a", [[0], [1]])
        self.told(NIL, "a b a", [[0], [1], [2], [3]])

    def test_tag(self):
        self.told(A, "", [[]])
        self.told(A, "a", [[1], []])
        self.told(A, "b", [[], []])
        self.told(A, "a b a", [[1], [], [3], []])
        self.told(A, "a(b) a", [[], [2], []])

    def test_tag_with_an_inner(self):
        self.told(("tag", "a", B), "a a(b) a(b b) b(b)", [[], [2], [], [], []])
        self.told(("tag", "a", ("some", B)), "a a(b) a(b b) b(b)", [[], [2], [3], [], []])

    def test_name(self):
        self.told(("name", "B"), "a b a", [[1, 2], [], [3], []])
        self.told(("name", "C"), "a", [[0], [1]])
        self.told(("name", "A"), "c(c(a b)) c(b) c", [[1], [], [], []])

    def test_turn(self):
        self.told(("turn", (A, B)), "a b a b", [[2], [], [4], [], []])
        self.told(("turn", (NIL, A, NIL)), "a a", [[1], [2], []])
        self.told(("turn", (("maybe", A), ("maybe", A), B)), "a a b", [[3], [3], [3], []])

    def test_or(self):
        self.told(("or", (A, B)), "a b c", [[1], [2], [], []])
        self.told(("or", (A, NIL, ("turn", (A, A)))), "a a a", [[0, 1, 2], [1, 2, 3], [2, 3], [3]])

    def test_many(self):
        self.told(("many", A), "", [[0]])
        self.told(("many", A), "a a b a", [[0, 1, 2], [1, 2], [2], [3, 4], [4]])
        self.told(("many", ("turn", (A, A))), "a a a a a", [[0, 2, 4], [1, 3, 5], [2, 4], [3, 5], [4], [5]])

    def test_some(self):
        self.told(("some", A), "", [[]])
        self.told(("some", A), "a a b a", [[1, 2], [2], [], [4], []])

    def test_maybe(self):
        self.told(("maybe", A), "", [[0]])
        self.told(("maybe", A), "a a", [[0, 1], [1, 2], [2]])


class Together(unittest.TestCase):
    def test_a_part_that_may_be_the_row_without_trees(self):
        for text in ["{a?}*", "{a*}*", "{a? b*}*", "{}*", "{a | {}}*", "{{a*}+}*"]:
            self.assertIn(0, led(text, "a a b", 0))
            self.assertIn(3, led(text, "a a b", 3))
        self.assertEqual(led("{a?}+", "a a b", 0), [0, 1, 2])
        self.assertEqual(led("{}*", "a a", 1), [1])
        self.assertEqual(led("{}+", "a a", 1), [1])
        self.assertEqual(led("{a? b?}+", "b a a c", 0), [0, 1, 2, 3])
        self.assertEqual(led("{a*}+ c", "b a a c", 1), [4])
        self.assertEqual(led("{{a+}+}+", "a a a", 0), [1, 2, 3])

    def test_one_way_may_be_too_greedy(self):
        self.assertEqual(led("a* a", "a a a", 0), [1, 2, 3])
        self.assertEqual(led("{a | a b}* b", "a b b", 0), [2, 3])
        self.assertEqual(led("{a a | a a a}*", "a a a a a a a", 0), [0, 2, 3, 4, 5, 6, 7])

    def test_names_used_more_than_once_and_within_tags(self):
        book = read("A = B d(B B) B; B = a | b C; C = c?")
        expr = book[0][1]
        self.assertEqual(ends(book, expr, grove_of("b c d(a b c) b c"), 0), [4, 5])
        self.assertEqual(ends(book, expr, grove_of("b c d(a) b c"), 0), [])
        self.assertEqual(ends(book, expr, grove_of("b c d(a b c) b c"), 1), [])

    def test_a_name_that_is_used_within_itself(self):
        book = read("A = a(A)*")
        self.assertTrue(meant(book, grove_of("a(a a(a)) a")))
        self.assertFalse(meant(book, grove_of("a(a a(b)) a")))

    def test_only_inner_rows_that_are_asked_for_count(self):
        book = read("A = a(b) | a(c) d")
        self.assertEqual(ends(book, book[0][1], grove_of("a(b) d"), 0), [1])
        self.assertEqual(ends(book, book[0][1], grove_of("a(c) d"), 0), [2])
        self.assertEqual(ends(book, book[0][1], grove_of("a(b c) d"), 0), [])

    def test_an_expression_that_is_not_the_books(self):
        self.assertEqual(ends(BOOK, ("tag", "z", ("tag", "y", ("name", "B"))), grove_of("z(y(a b))"), 0), [1])

    def test_against_all_small_groves(self):
        chance = random.Random(11)
        groves = groves_up_to(3, ["a", "b"])
        for _ in range(150):
            book = random_book(chance, 4)
            expr = random_expr(chance, 4, ["A", "BB", "C"], ["A", "BB", "C"])
            told = told_groves(dict(book), expr, 3)
            for grove in groves:
                for at in range(len(grove) + 1):
                    wanted = [end for end in range(at, len(grove) + 1) if grove[at:end] in told]
                    self.assertEqual(ends(book, expr, grove, at), wanted, (book, expr, grove, at))


class Meant(unittest.TestCase):
    def test_ordinary(self):
        book = read("DOC = {note | list(ROW)}*; ROW = item+")
        for text in ["", "note", "list(item)", "note list(item item) note"]:
            self.assertIs(meant(book, grove_of(text)), True)
        for text in ["item", "list", "list(note)", "note list", "list(item) item", "note(note)"]:
            self.assertIs(meant(book, grove_of(text)), False)

    def test_it_means_what_its_first_pair_means(self):
        book = read("A = a; B = b")
        self.assertTrue(meant(book, flat(1, "a")))
        self.assertFalse(meant(book, flat(1, "b")))

    def test_the_row_without_trees(self):
        self.assertTrue(meant(read("A = {}"), ()))
        self.assertFalse(meant(read("A = a"), ()))
        self.assertFalse(meant(read("A = {}"), flat(1)))

    def test_against_all_small_groves(self):
        chance = random.Random(12)
        groves = groves_up_to(4, ["a", "b"])
        for _ in range(60):
            book = random_book(chance, 5)
            told = told_groves(dict(book), book[0][1], 4)
            for grove in groves:
                self.assertEqual(meant(book, grove), grove in told, (book, grove))


class Great(unittest.TestCase):
    def test_names_that_stand_for_more_than_can_be_walked(self):
        pairs = [name + " = " + " ".join(below * 22) for name, below in zip("ABCDEF", "BCDEFG")]
        for last, row, wanted in [("{a | b}?", flat(300), True), ("a?", flat(299) + flat(1, "b"), False),
                                  ("{}", (), True), ("{}", flat(1), False)]:
            self.assertIs(meant(read("; ".join(pairs + ["G = " + last])), row), wanted)

    def test_many_within_many(self):
        def stars(count, core):
            return "{" * (count - 1) + core + "*" + "}*" * (count - 1)
        pairs = [name + " = " + stars(11, below) for name, below in zip("ABCDEFG", "BCDEFGH")]
        book = read("; ".join(pairs + ["H = " + stars(9, "a(A)")]))
        self.assertTrue(meant(book, nested(12) * 20 + flat(60)))
        self.assertFalse(meant(book, nested(12) * 20 + flat(59) + nested(11) + flat(1, "b")))

    def test_long_turns(self):
        book = read("A = {" + " ".join(["a*"] * 60) + "}+ {" + " ".join(["a+"] * 50) + "}+")
        self.assertTrue(meant(book, flat(300)))
        self.assertTrue(meant(book, flat(50)))
        self.assertFalse(meant(book, flat(49)))

    def test_twelve_deep(self):
        book = read("A = a(A) | b")
        grove = flat(1, "b")
        for _ in range(11):
            grove = (("a", grove),)
        self.assertTrue(meant(book, grove))
        self.assertFalse(meant(book, nested(12)))


class Own(unittest.TestCase):
    def test_what_is_told_is_the_askers_own(self):
        expr = ("many", A)
        ends(BOOK, expr, flat(2), 0).append(7)
        self.assertEqual(ends(BOOK, expr, flat(2), 0), [0, 1, 2])


if __name__ == "__main__":
    unittest.main()
