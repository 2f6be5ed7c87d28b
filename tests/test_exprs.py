import unittest

from formgrove.exprs import depth_of, shown_expr

NIL = ("nil",)
A = ("tag", "a", NIL)
B = ("tag", "b", NIL)
N = ("name", "N")
TURN = ("turn", (A, B))
OR = ("or", (A, B))
MANY = ("many", A)
SOME = ("some", A)
MAYBE = ("maybe", A)
ALL = [NIL, A, ("tag", "a", B), N, TURN, OR, MANY, SOME, MAYBE]


class Shown(unittest.TestCase):
    def test_alone(self):
        self.assertEqual([shown_expr(expr) for expr in ALL],
                         ["{}", "a", "a(b)", "N", "a b", "a | b", "a*", "a+", "a?"])

    def test_within_a_tag_no_braces(self):
        self.assertEqual([shown_expr(("tag", "t", expr)) for expr in ALL],
                         ["t", "t(a)", "t(a(b))", "t(N)", "t(a b)", "t(a | b)", "t(a*)", "t(a+)", "t(a?)"])

    def test_as_a_part_of_a_turn(self):
        for at in range(3):
            for expr, text in zip(ALL, ["{}", "a", "a(b)", "N", "{a b}", "{a | b}", "a*", "a+", "a?"]):
                parts, texts = [N, N], ["N", "N"]
                parts.insert(at, expr)
                texts.insert(at, text)
                self.assertEqual(shown_expr(("turn", tuple(parts))), " ".join(texts))

    def test_as_a_part_of_an_or(self):
        for at in range(3):
            for expr, text in zip(ALL, ["{}", "a", "a(b)", "N", "a b", "{a | b}", "a*", "a+", "a?"]):
                parts, texts = [N, N], ["N", "N"]
                parts.insert(at, expr)
                texts.insert(at, text)
                self.assertEqual(shown_expr(("or", tuple(parts))), " | ".join(texts))

    def test_as_a_part_of_many_some_and_maybe(self):
        texts = ["{}", "a", "a(b)", "N", "{a b}", "{a | b}", "{a*}", "{a+}", "{a?}"]
        for label, mark in [("many", "*"), ("some", "+"), ("maybe", "?")]:
            self.assertEqual([shown_expr((label, expr)) for expr in ALL], [text + mark for text in texts])

    def test_ordinary(self):
        expr = ("turn", (("tag", "head", ("or", (N, NIL))), ("many", ("or", (TURN, ("tag", "c", MANY)))), B))
        self.assertEqual(shown_expr(expr), "head(N | {}) {a b | c(a*)}* b")

    def test_deeper_than_books_are(self):
        expr = A
        for _ in range(40):
            expr = ("many", expr)
        self.assertEqual(shown_expr(expr), "{" * 39 + "a*" + "}*" * 39)


class Depth(unittest.TestCase):
    def test_depths(self):
        self.assertEqual([depth_of(expr) for expr in ALL], [1, 2, 3, 1, 3, 3, 3, 3, 3])
        self.assertEqual(depth_of(("turn", (N, ("or", (MANY, NIL)), N))), 5)


if __name__ == "__main__":
    unittest.main()
