import itertools
import random
import unittest

from formgrove.books import read, shown
from formgrove.errors import NoBook, NoName, Ring, TwiceNamed
from formgrove.exprs import shown_expr

NIL = ("nil",)
A = ("tag", "a", NIL)
B = ("tag", "b", NIL)
MARKS = [("many", "*"), ("some", "+"), ("maybe", "?")]

GOOD = [
    "A = {}", "A = a", "A = a(b)", "A = a b", "A = a | b", "A = a*", "A = a+", "A = a?", "A = {}*", "A = {a*}*",
    "A = {a b}?", "A = {a | b}+", "A = {a b} c", "A = a {b c}", "A = {a | b} c", "A = a | b c", "A = a b | {}",
    "A = {a | b} | c", "A = a | {b | c}", "A = {{a | b} c} d", "A = a(b c | d*)", "A = a({a*}+)", "A = {a? | b}* c(d)",
    "A = B; B = a", "ABCDEFGH = abcdefgh", "A = a(A)", "A = a(A)*; B = b(A B C) C; C = {}", "A = {} {}",
    "A = {} | {}", "A = B B; B = {}",
    "DOC = {note | list(ROW)}*; ROW = item(ROW) | {}",
]


def nested_many(count, core):
    """`count` stars round a text that needs no braces itself."""
    return "{" * (count - 1) + core + "*" + "}*" * (count - 1) if count else core


def nested_tags(count, core):
    return "a(" * count + core + ")" * count


class Reading(unittest.TestCase):
    def test_ordinary(self):
        self.assertEqual(read("A = a"), (("A", A),))
        self.assertEqual(read("A = {}"), (("A", NIL),))
        self.assertEqual(read("A = {a b}* | c(B); B = a? b+"), (
            ("A", ("or", (("many", ("turn", (A, B))), ("tag", "c", ("name", "B"))))),
            ("B", ("turn", (("maybe", A), ("some", B))))))
        self.assertEqual(read("A = {a | b} {a b} b"), (("A", ("turn", (("or", (A, B)), ("turn", (A, B)), B))),))

    def test_the_example_without_its_ring(self):
        text = "DOC = {note | list(ROW)}*; ROW = item(ROW) | {}"
        book = (("DOC", ("many", ("or", (("tag", "note", NIL), ("tag", "list", ("name", "ROW")))))),
                ("ROW", ("or", (("tag", "item", ("name", "ROW")), NIL))))
        self.assertEqual(read(text), book)
        self.assertEqual(shown(book), text)

    def test_good_ones_come_back(self):
        for text in GOOD:
            book = read(text)
            self.assertEqual(shown(book), text)
            self.assertIs(type(book), tuple)
            for pair in book:
                self.assertIs(type(pair), tuple)
                self.assertIs(type(pair[1]), tuple)

    def test_parts_are_tuples(self):
        expr = read("A = a b | {}")[0][1]
        self.assertIs(type(expr[1]), tuple)
        self.assertIs(type(expr[1][0][1]), tuple)

    def test_random_books_come_back(self):
        chance = random.Random(9)
        checked = 0
        for _ in range(2000):
            book = tuple((name, random_expr(chance, chance.randrange(1, 7))) for name in ["A", "BB", "C"])
            text = "; ".join(name + " = " + written(expr) for name, expr in book)
            self.assertEqual(shown(book), text)
            if len(text) <= 400:
                checked += 1
                self.assertEqual(read(text), book)
        self.assertGreater(checked, 1000)


def random_expr(chance, levels):
    """An expression at most so deep, without names outside of tags."""
    label = chance.choice(["nil", "tag", "turn", "or", "many", "some", "maybe"])
    if levels == 1 or label == "nil":
        return NIL
    if label == "tag":
        inner = ("name", chance.choice(["A", "BB", "C"])) if chance.random() < 0.4 else random_expr(chance, levels - 1)
        return ("tag", chance.choice(["a", "bc"]), inner)
    if label in ("turn", "or"):
        return (label, tuple(random_expr(chance, levels - 1) for _ in range(chance.choice([2, 2, 3]))))
    return (label, random_expr(chance, levels - 1))


def written(expr):
    """An expression's text, in the document's words and apart from the program's own."""
    def braced(part, labels):
        return "{" + written(part) + "}" if part[0] in labels.split() else written(part)
    label = expr[0]
    if label == "nil":
        return "{}"
    if label == "name":
        return expr[1]
    if label == "tag":
        return expr[1] + ("" if expr[2] == NIL else "(" + written(expr[2]) + ")")
    if label == "turn":
        return " ".join(braced(part, "turn or") for part in expr[1])
    if label == "or":
        return " | ".join(braced(part, "or") for part in expr[1])
    return braced(expr[1], "turn or many some maybe") + dict(MARKS)[label]


class NoBooks(unittest.TestCase):
    def refused(self, text):
        with self.assertRaises(NoBook, msg=text):
            read(text)

    def test_pairs(self):
        for text in ["", "A", "A =", "A = ", "= a", " = a", "a", "a = a", "A = a;", "A = a; ", "; A = a", "A = a; B",
                     "A = a; B =", "A = a; B = ", "A=a", "A= a", "A =a", "A  = a", "A =  a", " A = a", "A = a ",
                     "A = a;B = b", "A = a;  B = b", "A = a ; B = b", "A = a, B = b", "A = a = b", "A = a; ; B = b",
                     "A = a\nB", "A = a; b = a"]:
            self.refused(text)

    def test_names_and_tags(self):
        for text in ["ABCDEFGHI = a", "A = ABCDEFGHI", "A = abcdefghi", "A = aB", "A = Ab", "A = a1", "A1 = a", "Aa = a",
                     "A = a/b", "A = a-b", "A = 1", "A = A(b)", "A = a(b)c", "A = (a)", "A = a (b)", "A = a()",
                     "A = a(b)(c)", "A = aA", "A_ = a", "A = ~"]:
            self.refused(text)

    def test_blanks(self):
        for text in ["A = a  b", "A = a|b", "A = a |b", "A = a| b", "A = a  | b", "A = a |  b", "A = a( b)",
                     "A = a(b )", "A = { a b}*", "A = {a b }*", "A = a *", "A = {a b} *", "A = { }", "A = a (b)",
                     "A = a | ", "A = | a", "A = a | | b", "A = a b ", "A = {} ", "A = a(b  c)"]:
            self.refused(text)

    def test_braces_where_none_belong(self):
        for text in ["A = {a}", "A = {a b}", "A = {a | b}", "A = {a*}", "A = {A}", "A = {{}}", "A = {a} b", "A = a {b}",
                     "A = {a}*", "A = {a(b)}*", "A = {A}+", "A = {{}}*", "A = {a b} | c", "A = a | {b c}", "A = {a*} b",
                     "A = a | {b}", "A = {a?} | b", "A = a({b})", "A = a({b c})", "A = a({b | c})", "A = a({})",
                     "A = {{a b}}*", "A = {{a | b}} c", "A = a {b+}", "A = {{a | b}* c}", "A = {} a {}b"]:
            self.refused(text)

    def test_braces_missing(self):
        for text in ["A = a**", "A = a*+", "A = a+?", "A = a??", "A = {a", "A = a}", "A = {a b", "A = a b}*", "A = {a b*",
                     "A = a(b", "A = a b)", "A = a(b}", "A = {a b)*", "A = }{", "A = *", "A = a | *", "A = a(*)",
                     "A = {*}", "A = {| a}*", "A = {a |}*", "A = {", "A = a({a b)*}", "A = {}{}", "A = a{}"]:
            self.refused(text)

    def test_deeply_paired_signs(self):
        for text in ["A = " + "{" * 396, "A = " + "{" * 198 + "}" * 198, "A = " + "a(" * 198, "A = " + "{" * 3996,
                     "A = " + "a(" * 1300 + "a" + ")" * 1300, "A = " + "{" * 100 + "a b" + "}*" * 100]:
            self.refused(text)

    def test_signs_put_in_left_out_and_changed(self):
        # Whatever is read of a text is written as that very text.
        signs = " a*A|{}()=;?+Z1"
        for text in GOOD:
            near = [text[:at] + text[at + 1:] for at in range(len(text))]
            near += [text[:at] + sign + text[at:] for at in range(len(text) + 1) for sign in signs]
            near += [text[:at] + sign + text[at + 1:] for at in range(len(text)) for sign in signs]
            for other in near:
                try:
                    self.assertEqual(shown(read(other)), other)
                except (NoBook, NoName, Ring, TwiceNamed):
                    pass

    def test_all_short_texts(self):
        longest = 6
        texts = {written(expr) for expr in short_exprs(longest)}
        read_ones = set()
        for count in range(longest + 1):
            for signs in itertools.product("a {}|*()", repeat=count):
                text = "".join(signs)
                try:
                    book = read("A = " + text)
                except NoBook:
                    continue
                self.assertEqual(written(book[0][1]), text)
                read_ones.add(text)
        self.assertEqual(read_ones, texts)


def short_exprs(longest):
    """All expressions of nil, tags of the letter a, turn, or, many, whose text has at most so many signs."""
    tags = ["a" * count for count in range(1, longest + 1)]
    found = {NIL} | {("tag", tag, NIL) for tag in tags}
    grown = True
    while grown:
        more = {("many", expr) for expr in found} | {("tag", tag, expr) for tag in tags for expr in found}
        short = [(expr, len(written(expr))) for expr in found if len(written(expr)) <= longest - 2]
        # Four parts with three blanks between would be longer.
        for count in [2, 3]:
            for parts in itertools.product(short, repeat=count):
                if sum(length for expr, length in parts) + count - 1 <= longest:
                    row = tuple(expr for expr, length in parts)
                    more |= {("turn", row), ("or", row)}
        more = {expr for expr in more if len(written(expr)) <= longest}
        grown = not more <= found
        found |= more
    return found


class Bounds(unittest.TestCase):
    def refused(self, text):
        with self.assertRaises(NoBook, msg=text):
            read(text)

    def test_eight_and_nine_pairs(self):
        names = ["A", "B", "C", "D", "E", "F", "G", "H", "I"]
        eight = "; ".join(name + " = a" for name in names[:8])
        self.assertEqual([name for name, expr in read(eight)], names[:8])
        self.refused("; ".join(name + " = a" for name in names))

    def test_400_and_401_signs(self):
        text = "A = " + "a " * 197 + "aa"
        self.assertEqual(len(text), 400)
        self.assertEqual(shown(read(text)), text)
        self.refused(text + "a")
        self.refused("A = " + "a " * 1997 + "aa")

    def test_twelve_and_thirteen_deep_by_stars(self):
        # A tag with nothing within is two deep: nil is in it.
        for core, deep in [("a", 2), ("{}", 1), ("a(b)", 3)]:
            text = "A = " + nested_many(12 - deep, core)
            self.assertEqual(shown(read(text)), text)
            self.refused("A = " + nested_many(13 - deep, core))

    def test_twelve_and_thirteen_deep_by_tags(self):
        for core, deep in [("a", 2), ("A", 1), ("a b", 3), ("a* | {}", 4)]:
            text = "A = " + nested_tags(12 - deep, core)
            self.assertEqual(shown(read(text)), text)
            self.refused("A = " + nested_tags(13 - deep, core))

    def test_twelve_and_thirteen_deep_by_turns_and_ors(self):
        for labels in [("turn", "turn"), ("or", "or"), ("turn", "or"), ("or", "many"), ("some", "turn")]:
            expr = A
            for number in range(10):
                label = labels[number % 2]
                expr = (label, (B, expr) if label in ("turn", "or") else expr)
            self.assertEqual(read("A = " + written(expr)), (("A", expr),))
            for label in ["many", "some", "maybe"]:
                self.refused("A = " + written((label, expr)))
            for label in ["turn", "or"]:
                self.refused("A = " + written((label, (expr, NIL))))
                self.refused("A = " + written((label, (NIL, expr))))

    def test_the_depth_of_each_pair_counts(self):
        self.refused("A = a; B = " + nested_many(11, "a") + "; C = a")
        text = "A = " + nested_many(10, "a") + "; B = " + nested_tags(10, "a")
        self.assertEqual(shown(read(text)), text)


class Names(unittest.TestCase):
    def refusal(self, text, error):
        with self.assertRaises(error, msg=text) as caught:
            read(text)
        return caught.exception

    def test_twice_named(self):
        for text, name in [("A = a; A = a", "A"), ("A = a; B = b; B = a; A = a", "B"), ("A = a; B = b; A = b; B = b", "A"),
                           ("A = a; B = b; C = c; AB = a; C = d", "C"), ("A = a; A = a; A = a", "A")]:
            self.assertEqual(self.refusal(text, TwiceNamed).name, name)

    def test_no_name(self):
        for text, name in [("A = B", "B"), ("A = a(B)", "B"), ("A = a(b(C) B) D", "C"), ("A = B; B = C | D", "C"),
                           ("A = {a | E} {F*}+", "E"), ("A = a B; B = b(X) Y; C = Z", "X"), ("A = AA", "AA")]:
            self.assertEqual(self.refusal(text, NoName).name, name)

    def ring(self, text):
        """The ring that is told, of a text without tags that hold names but as `t(..)`."""
        names = self.refusal(text, Ring).names
        self.assertIs(type(names), list)
        self.assertEqual(len(names), len(set(names)))
        self.assertTrue(names)
        pairs = dict(pair.split(" = ") for pair in text.split("; "))
        for number, name in enumerate(names):
            outside = outside_of_tags(pairs[names[number - 1]])
            self.assertIn(name, outside.split())
        return names

    def test_rings_of_one(self):
        for text in ["A = A", "A = a A", "A = {a | A}*", "A = {{} A}?", "A = a(A) A", "A = a A | {}"]:
            self.assertEqual(self.ring(text), ["A"])
        self.assertEqual(self.ring("A = a; B = B"), ["B"])
        self.assertEqual(self.ring("A = a B; B = b; C = a(A) C"), ["C"])
        self.assertEqual(self.ring("DOC = {note | list(ROW)}*; ROW = item ROW | {}"), ["ROW"])

    def test_rings_of_two_and_more(self):
        self.assertEqual(sorted(self.ring("A = B; B = A")), ["A", "B"])
        self.assertEqual(sorted(self.ring("A = a B*; B = a(B) | {A b}+")), ["A", "B"])
        self.assertEqual(sorted(self.ring("A = B; B = C; C = A")), ["A", "B", "C"])
        self.assertEqual(sorted(self.ring("A = B; B = C; C = D; D = B")), ["B", "C", "D"])
        self.assertEqual(sorted(self.ring("A = a; B = D A; C = B; D = a C")), ["B", "C", "D"])
        names = "ABCDEFGH"
        eight = "; ".join(name + " = a " + names[(number + 3) % 8] for number, name in enumerate(names))
        self.assertEqual(sorted(self.ring(eight)), list(names))

    def test_more_than_one_ring(self):
        self.ring("A = A B; B = A B")
        self.ring("A = B C; B = C; C = B D; D = D")
        self.ring("A = B; B = B | A C; C = B C A")

    def test_no_ring(self):
        for text in ["A = a(A)", "A = a(B); B = b(A)", "A = B; B = b(A)", "A = B C; B = C; C = c(A B C)",
                     "A = B B; B = C C; C = D D; D = {}", "A = a(b A)* B; B = a({A | B}*)"]:
            self.assertEqual(shown(read(text)), text)

    def test_all_small_rings(self):
        # Each way in which three names may use one another outside of tags.
        names = ["A", "B", "C"]
        uses = [[name for number, name in enumerate(names) if mask >> number & 1] for mask in range(8)]
        for some in itertools.product(uses, repeat=3):
            text = "; ".join(name + " = " + " ".join(["t(A B C)"] + used) for name, used in zip(names, some))
            reach = {name: set(used) for name, used in zip(names, some)}
            for _ in range(3):
                for name in names:
                    for other in list(reach[name]):
                        reach[name] |= reach[other]
            if any(name in reach[name] for name in names):
                self.ring(text)
            else:
                self.assertEqual(shown(read(text)), text)

    def test_the_order_of_the_refusals(self):
        # A bad text ahead of a name twice, that ahead of a name without a pair, that ahead of a ring.
        for text in ["A = A B; A = C ", "A = {a}; A = B; C = C", "A = A; " + "B = b; " * 7 + "C = D",
                     "A = A; A = B; C = " + nested_many(11, "a"), "A = A; A = " + "B " * 200 + "B"]:
            self.refusal(text, NoBook)
        self.assertEqual(self.refusal("A = A B; B = C; B = b", TwiceNamed).name, "B")
        self.assertEqual(self.refusal("A = X; A = A", TwiceNamed).name, "A")
        self.assertEqual(self.refusal("A = A B", NoName).name, "B")
        self.assertEqual(self.refusal("A = A; B = b(C)", NoName).name, "C")

    def test_a_rings_names_are_the_askers_own(self):
        self.refusal("A = A", Ring).names.clear()
        self.assertEqual(self.refusal("A = A", Ring).names, ["A"])


def outside_of_tags(text):
    """The names of an expression's text that stand outside of `( )`, parted by blanks."""
    kept = ""
    deep = 0
    for sign in text:
        deep += {"(": 1, ")": -1}.get(sign, 0)
        kept += sign if deep == 0 and sign.isupper() else " "
    return kept


class Shown(unittest.TestCase):
    def test_one_and_more_pairs(self):
        self.assertEqual(shown((("A", NIL),)), "A = {}")
        self.assertEqual(shown((("A", ("or", (A, B))), ("B", ("name", "A")))), "A = a | b; B = A")

    def test_as_the_expressions_are(self):
        for text in GOOD:
            book = read(text)
            self.assertEqual("; ".join(name + " = " + shown_expr(expr) for name, expr in book), text)


if __name__ == "__main__":
    unittest.main()
