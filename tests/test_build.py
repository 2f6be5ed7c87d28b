import itertools
import random
import unittest

from formgrove.books import read
from formgrove.build import form_of, joints
from formgrove.errors import TooMany
from formgrove.forms import form
from formgrove.meaning import meant
from formgrove.runs import fits
from formgrove.texts import read as grove_of
from samples import NIL, groves_up_to, is_of, random_book, random_expr, told_groves

BOOK = read("A = a B; B = b | c(A); C = {}")
A = ("tag", "a", NIL)
B = ("tag", "b", NIL)
# Each name stands for 22 times what the next one does.
TOWER = "; ".join(name + " = " + " ".join(below * 22) for name, below in zip("ABCDEF", "BCDEFG")) + "; G = "


def place_rows(names, expr, places):
    """Rows of places, with no part more than twice again; the places are put into the list from the left."""
    label = expr[0]
    if label == "nil":
        return {()}
    if label == "tag":
        places.append((expr[1], expr[2]))
        return {(len(places) - 1,)}
    if label == "name":
        return place_rows(names, names[expr[1]], places)
    if label == "turn":
        found = {()}
        for part in expr[1]:
            rows = place_rows(names, part, places)
            found = {one + other for one in found for other in rows}
        return found
    if label == "or":
        return set().union(*[place_rows(names, part, places) for part in expr[1]])
    part = place_rows(names, expr[1], places)
    if label == "maybe":
        return part | {()}
    found = part | {one + other for one in part for other in part}
    return found | {()} if label == "many" else found


def plain_joints(names, expr):
    places = []
    rows = place_rows(names, expr, places)
    return (places, () in rows, sorted({row[0] for row in rows if row}), sorted({row[-1] for row in rows if row}),
            sorted({pair for row in rows for pair in zip(row, row[1:])}))


class Joints(unittest.TestCase):
    def told(self, expr, wanted):
        self.assertEqual(joints(BOOK, expr), wanted)

    def test_each_word(self):
        place = ("a", NIL)
        self.told(NIL, ([], True, [], [], []))
        self.told(A, ([place], False, [0], [0], []))
        self.told(("tag", "a", B), ([("a", B)], False, [0], [0], []))
        self.told(("name", "C"), ([], True, [], [], []))
        self.told(("name", "B"), ([("b", NIL), ("c", ("name", "A"))], False, [0, 1], [0, 1], []))
        self.told(("turn", (A, A)), ([place, place], False, [0], [1], [(0, 1)]))
        self.told(("or", (A, A)), ([place, place], False, [0, 1], [0, 1], []))
        self.told(("many", A), ([place], True, [0], [0], [(0, 0)]))
        self.told(("some", A), ([place], False, [0], [0], [(0, 0)]))
        self.told(("maybe", A), ([place], True, [0], [0], []))

    def test_parts_that_may_be_left_out(self):
        expr = read("X = a? b* c d?")[0][1]
        places = [(tag, NIL) for tag in "abcd"]
        self.told(expr, (places, False, [0, 1, 2], [2, 3], [(0, 1), (0, 2), (1, 1), (1, 2), (2, 3)]))
        expr = read("X = {a? b?}+")[0][1]
        self.told(expr, (places[:2], True, [0, 1], [0, 1], [(0, 0), (0, 1), (1, 0), (1, 1)]))
        self.told(("some", ("or", (NIL, A))), (places[:1], True, [0], [0], [(0, 0)]))
        self.told(("or", (NIL, NIL)), ([], True, [], [], []))
        self.told(("turn", (("maybe", A), ("name", "C"), ("maybe", B))), (places[:2], True, [0, 1], [0, 1], [(0, 1)]))

    def test_names_each_time_they_come(self):
        places = [("a", NIL), ("b", NIL), ("c", ("name", "A"))]
        self.told(("turn", (("name", "A"), ("name", "B"))),
                  (places + places[1:], False, [0], [3, 4], [(0, 1), (0, 2), (1, 3), (1, 4), (2, 3), (2, 4)]))

    def test_against_rows_of_places(self):
        chance = random.Random(13)
        checked = 0
        for _ in range(1500):
            book = random_book(chance, 3)
            expr = random_expr(chance, 3, ["A", "BB", "C"], ["A", "BB", "C"])
            places = []
            if len(place_rows(dict(book), expr, places)) < 400:
                checked += len(places) > 1
                self.assertEqual(joints(book, expr), plain_joints(dict(book), expr), (book, expr))
        self.assertGreater(checked, 300)

    def test_64_and_65_places(self):
        for between, around in [(" ", "%s"), (" | ", "{%s}*"), (" ", "{%s}+"), (" | ", "{%s}?")]:
            for count in [63, 64]:
                book = read("A = " + around % between.join(["a"] * count))
                self.assertEqual(len(joints(book, book[0][1])[0]), count)
            book = read("A = " + around % between.join(["a"] * 65))
            with self.assertRaises(TooMany):
                joints(book, book[0][1])

    def test_64_and_65_places_by_names(self):
        book = read("A = B B; B = C C C C; C = D D D D; D = a | b; E = A a")
        places = joints(book, ("name", "A"))[0]
        self.assertEqual(places, [("a", NIL), ("b", NIL)] * 32)
        with self.assertRaises(TooMany):
            joints(book, ("name", "E"))
        with self.assertRaises(TooMany):
            joints(book, ("turn", (("name", "C"),) * 9))

    def test_tags_within_tags_are_no_places(self):
        book = read("A = a(" + " ".join(["b"] * 65) + ")")
        self.assertEqual(len(joints(book, book[0][1])[0]), 1)

    def test_far_more_places_than_can_be_walked(self):
        for last in ["a", "a | {}", "a(A)*"]:
            book = read(TOWER + last)
            with self.assertRaises(TooMany):
                joints(book, book[0][1])
            with self.assertRaises(TooMany):
                joints(book, ("many", ("name", "B")))

    def test_far_more_names_without_places_than_can_be_walked(self):
        book = read(TOWER + "{} | {}*")
        self.assertEqual(joints(book, book[0][1]), ([], True, [], [], []))
        self.assertEqual(joints(book, ("turn", (A, ("name", "A"), B)))[4], [(0, 1)])

    def test_what_is_told_is_the_askers_own(self):
        told = joints(BOOK, ("many", A))
        told[2].append(5)
        self.assertEqual(told[3], [0])
        told[0].clear()
        told[4].clear()
        self.assertEqual(joints(BOOK, ("many", A)), ([("a", NIL)], True, [0], [0], [(0, 0)]))


def like(one, other):
    """Whether two small forms are alike but for the numbers of their kinds."""
    if one[0] != other[0]:
        return False
    for order in itertools.permutations(range(one[0])):
        if form(one[0], [order[kind] for kind in one[1]], [order[kind] for kind in one[2]],
                [(order[kind], tag, order[inner], order[rest]) for kind, tag, inner, rest in one[3]]) == other:
            return True
    return False


class FormOf(unittest.TestCase):
    def test_just_the_kinds_and_rules_told(self):
        for text, wanted in [
                ("A = {}", form(1, [0], [0], [])),
                ("A = {} {}", form(1, [0], [0], [])),
                ("A = a", form(3, [0], [1, 2], [(0, "a", 2, 1)])),
                # The row of the name and the row of what it stands for are two.
                ("A = a(A) | {}", form(4, [0], [0, 1, 2, 3], [(0, "a", 2, 1), (2, "a", 2, 3)])),
                ("A = a(b?) b?", form(6, [0], [1, 2, 3, 4, 5], [(0, "a", 3, 1), (1, "b", 5, 2), (3, "b", 5, 4)])),
                # Alike inners are one row.
                ("A = a(b?) a(b?)", form(6, [0], [2, 3, 4, 5], [(0, "a", 3, 1), (1, "a", 3, 2), (3, "b", 5, 4)])),
                ("A = a* | b", form(4, [0], [0, 1, 2, 3], [(0, "a", 3, 1), (1, "a", 3, 1), (0, "b", 3, 2)])),
                ("A = B B; B = a", form(4, [0], [2, 3], [(0, "a", 3, 1), (1, "a", 3, 2)])),
                ("A = a?; B = b(c)", form(3, [0], [0, 1, 2], [(0, "a", 2, 1)]))]:
            self.assertTrue(like(form_of(read(text)), wanted), (text, form_of(read(text))))

    def test_two_places_of_one_tag_and_inner_are_two_kinds(self):
        made = form_of(read("A = a | a"))
        self.assertTrue(like(made, form(4, [0], [1, 2, 3], [(0, "a", 3, 1), (0, "a", 3, 2)])))

    def test_a_name_is_another_row_than_what_it_stands_for(self):
        made = form_of(read("A = a(B) b(c); B = c"))
        self.assertEqual((made[0], len(made[1]), len(made[2]), len(made[3])), (8, 1, 4, 4))

    def test_a_row_that_is_the_first_pairs_expression_again(self):
        made = form_of(read("A = b(b(c)?)?"))
        self.assertEqual(made[0], 7)
        self.assertEqual(form_of(read("A = a; B = a"))[0], 3)
        self.assertEqual(form_of(read("A = a(a)"))[0], 5)

    def test_its_groves_are_those_that_the_book_means(self):
        chance = random.Random(14)
        groves = groves_up_to(4, ["a", "b"])
        checked = 0
        for _ in range(120):
            book = random_book(chance, 4)
            told = told_groves(dict(book), book[0][1], 4)
            made = form_of(book)
            self.assertEqual(form(*made), made)
            checked += 1 < len(told) < len(groves)
            for grove in groves:
                self.assertEqual(fits(made, grove), grove in told, (book, grove))
                self.assertEqual(meant(book, grove), grove in told, (book, grove))
        self.assertGreater(checked, 40)

    def test_ordinary(self):
        book = read("DOC = {note | list(ROW)}*; ROW = item+")
        made = form_of(book)
        for text in ["", "note", "list(item)", "note list(item item) note"]:
            self.assertTrue(meant(book, grove_of(text)) and fits(made, grove_of(text)))
        for text in ["item", "list", "list(note)", "note list", "list(item) item", "note(note)"]:
            self.assertFalse(meant(book, grove_of(text)) or fits(made, grove_of(text)))

    def test_64_and_65_kinds(self):
        # A row's kind, those of its places, and the kind of what is within them.
        made = form_of(read("A = " + " ".join(["a"] * 62)))
        self.assertEqual((made[0], len(made[3])), (64, 62))
        self.assertTrue(is_of(made, made[1][0], (("a", ()),) * 62))
        with self.assertRaises(TooMany):
            form_of(read("A = " + " ".join(["a"] * 63)))
        # Rows within rows count too.
        rows = "A = a(b) c(d); B = " + " ".join(["a"] * 65)
        self.assertEqual(form_of(read(rows))[0], 8)
        full = "A = " + " ".join(["a"] * 30) + " b(" + " ".join(["a"] * 29) + "%s)"
        self.assertEqual(form_of(read(full % ""))[0], 63)
        self.assertEqual(form_of(read(full % " a"))[0], 64)
        with self.assertRaises(TooMany):
            form_of(read(full % " a a"))

    def test_400_and_401_rules(self):
        many = "{" + " | ".join(["a"] * 19) + "}* b"
        made = form_of(read("A = " + many))
        self.assertEqual((made[0], len(made[3])), (22, 400))
        for text in ["A = " + many + " c", "A = {" + " | ".join(["a"] * 20) + "}*"]:
            with self.assertRaises(TooMany):
                form_of(read(text))

    def test_far_more_than_can_be_walked(self):
        for text in [TOWER + "a", TOWER + "a(A)?", TOWER.replace("A = B", "A = c(B) B") + "a"]:
            with self.assertRaises(TooMany):
                form_of(read(text))
        self.assertEqual(form_of(read(TOWER + "{}")), form(1, [0], [0], []))

    def test_names_that_the_first_pair_never_comes_to_do_not_count(self):
        self.assertEqual(form_of(read("Z = a; " + TOWER + "a"))[0], 3)


if __name__ == "__main__":
    unittest.main()
