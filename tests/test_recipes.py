import random
import unittest

from formgrove.changers import changer
from formgrove.errors import NoRecipe
from formgrove.recipes import read, shown
from samples import random_changer, tag_names

SOME = "2; 0 list = row(1) 0; 1 item = {}"
SIGNS = " ;={}()0123459abz/AZ~-"


def written(made):
    """The text of a changer, by the document's words."""
    text = str(made[0])
    for mode, tag, parts in made[1]:
        text += "; " + str(mode) + " " + tag + " = " + (written_parts(parts) if parts else "{}")
    return text


def written_parts(parts):
    texts = []
    for part in parts:
        if part[0] == "kids":
            texts.append(str(part[1]))
        elif part[2]:
            texts.append(part[1] + "(" + written_parts(part[2]) + ")")
        else:
            texts.append(part[1])
    return " ".join(texts)


def samples(seed, count):
    chance = random.Random(seed)
    return [random_changer(chance, chance.randrange(1, 5), ["a", "bc", "abcdefgh"], 4) for _ in range(count)]


class Written(unittest.TestCase):
    def test_ordinary(self):
        made = changer(2, [(0, "list", (("tag", "row", (("kids", 1),)), ("kids", 0))), (1, "item", ())])
        self.assertEqual(shown(made), SOME)
        self.assertEqual(read(SOME), made)

    def test_edges(self):
        for text, made in [
                ("1", (1, ())), ("4", (4, ())), ("1; 0 a = {}", (1, ((0, "a", ()),))),
                ("1; 0 a = 0", (1, ((0, "a", (("kids", 0),)),))),
                ("1; 0 a = a", (1, ((0, "a", (("tag", "a", ()),)),))),
                ("4; 3 a = 3 0 3", (4, ((3, "a", (("kids", 3), ("kids", 0), ("kids", 3))),))),
                ("1; 0 a = b(c(d e) 0) f", (1, ((0, "a", (
                    ("tag", "b", (("tag", "c", (("tag", "d", ()), ("tag", "e", ()))), ("kids", 0))),
                    ("tag", "f", ()))),))),
                ("2; 0 a = b(c(0)); 0 aa = {}; 0 b = {}; 1 a = {}", (2, (
                    (0, "a", (("tag", "b", (("tag", "c", (("kids", 0),)),)),)), (0, "aa", ()), (0, "b", ()),
                    (1, "a", ()))))]:
            self.assertEqual(shown(made), text)
            self.assertEqual(read(text), made)

    def test_read_back(self):
        for made in samples(49, 300):
            self.assertEqual(shown(made), written(made))
            self.assertEqual(read(shown(made)), made)
            self.assertEqual(changer(made[0], list(read(shown(made))[1])), made)

    def test_great_ones(self):
        deep = ("kids", 3)
        for _ in range(11):
            deep = ("tag", "abcdefgh", (deep,))
        made = changer(4, [(mode, tag, (deep,)) for mode in range(4) for tag in tag_names(8)])
        self.assertEqual(read(shown(made)), made)
        wide = changer(4, [(mode, tag, (("kids", 0),) * 40) for mode in range(4) for tag in tag_names(10)])
        self.assertEqual(read(shown(wide)), wide)


class Refused(unittest.TestCase):
    def refused(self, text):
        with self.assertRaises(NoRecipe):
            read(text)

    def test_of_no_changer(self):
        for text in ["", " ", "0", "5", "10", "01", "-1", "a", "1 ", " 1", "1;", "1; ", "; ", "1; 0", "1; 0 ", "1; 0 a",
                     "1; 0 a ", "1; 0 a =", "1; 0 a = ", "1; 0 a = {", "1; 0 a = {} ", "1; 0 a = {};", "1; 0 a = {}; ",
                     "1; 0 a = {} 0", "1; 0 a = 0 {}", "1; 0 a = {}{}", "1; 0 a = b({})", "1; 0 a = b()",
                     "1; 0 a = b( )", "1; 0 a = (b)", "1; 0 a = b(c", "1; 0 a = b(c))", "1; 0 a = b)", "1; 0 a = b (c)",
                     "1; 0 a = b(c )", "1; 0 a = b( c)", "1; 0 a = b(c)d", "1; 0 a = b(c)0", "1; 0 a = 0(b)",
                     "1; 0 a = 00", "1; 0 a = 0b", "1; 0 a = b0", "1; 0 a = b  c", "1; 0 a = b ", "1; 0  a = b",
                     "1; 0 a  = b", "1; 0 a =  b", "1; 0 a=b", "1;0 a = b", "1;  0 a = b", "1 ; 0 a = b", "1, 0 a = b",
                     "1; 0 A = b", "1; 0 a = B", "1; 0 abcdefghi = b", "1; 0 a = abcdefghi", "1; 0 a = b(abcdefghi)",
                     "1; a = b", "1; 0 = b", "1; 0 0 = b", "1; 00 a = b", "1; 0 a = b; 0", "0 a = b", "1 0 a = b",
                     "1; 0 a = b\n", "1\n", "1; 0 a = b | c", "1; 0 a = b*", "1; 0 a = /"]:
            self.refused(text)

    def test_a_mode_beyond_the_count(self):
        for modes in [1, 2, 3, 4]:
            for bad in range(modes, 10):
                self.refused(f"{modes}; {bad} a = {{}}")
                self.refused(f"{modes}; 0 a = {bad}")
                self.refused(f"{modes}; 0 a = b(0 c({bad}) 0)")
            self.assertEqual(len(read(f"{modes}; {modes - 1} a = {modes - 1} b({modes - 1})")[1]), 1)

    def test_rules_in_another_order_and_twice(self):
        for one, other in [("0 a = 0", "0 b = {}"), ("0 a = 1", "1 a = b"), ("0 z = {}", "1 a = {}"),
                           ("0 a = {}", "0 aa = {}"), ("0 ab = {}", "0 b = {}")]:
            self.assertEqual(len(read(f"2; {one}; {other}")[1]), 2)
            self.refused(f"2; {other}; {one}")
            self.refused(f"2; {one}; {one}")
            self.refused(f"2; {one}; {other}; {one}")
        self.refused("2; 0 a = 0; 0 a = 1")
        self.refused("2; 0 a = 0; 1 b = {}; 0 c = {}")

    def test_a_sign_more_fewer_or_other(self):
        counts = {"read": 0, "refused": 0}
        for made in samples(50, 12):
            text = written(made)
            tried = [text[:at] + text[at + 1:] for at in range(len(text))]
            for at in range(len(text) + 1):
                tried += [text[:at] + sign + text[at:] for sign in SIGNS]
                tried += [text[:at] + sign + text[at + 1:] for sign in SIGNS]
            for other in tried:
                # What is read is written so; what isn't is no changer's text, or else it would be missing above.
                try:
                    told = read(other)
                except NoRecipe:
                    counts["refused"] += 1
                    continue
                counts["read"] += 1
                self.assertEqual(written(told), other)
                self.assertEqual(changer(told[0], list(told[1])), told)
        self.assertGreater(counts["refused"], 10 * counts["read"])
        self.assertGreater(counts["read"], 100)

    def test_texts_that_go_deep(self):
        self.refused("1; 0 a = " + "a(" * 1900)
        self.refused("1; 0 a = " + "a(" * 1300 + "a" + ")" * 1299)
        self.refused("1; 0 a = " + "a(" * 1300 + ")" * 1300)
        self.refused("1; 0 a = " + "(" * 3900)


if __name__ == "__main__":
    unittest.main()
