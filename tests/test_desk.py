import copy
import unittest

from formgrove import books, recipes
from formgrove.build import form_of
from formgrove.desk import Desk
from formgrove.errors import (NoBook, NoGrove, NoName, NoneFits, NoRecipe, NoRow, NotStraight,
                              Ring, TooBig, TooMany, TwiceNamed)
from formgrove.forms import trimmed
from formgrove.joins import common
from formgrove.safety import asked_back
from formgrove.sorts import sorts
from formgrove.within import less
from samples import flat, nested, tag_names, written

DOC = "DOC = {note | list(ROW)}*; ROW = item+"
ROWS = "A = row*"
EACH = ["form", "grove", "changer", "join", "then", "common", "less", "again", "inside", "back", "change", "mend",
        "fits", "within", "same", "safe", "least", "pipe", "sorts", "show"]


def told(*rows):
    """A desk that has been told some rows."""
    desk = Desk()
    for row in rows:
        desk.say(row)
    return desk


class Asked(unittest.TestCase):
    def answers(self, desk, pairs):
        for row, answer in pairs:
            self.assertEqual(desk.say(row), answer, row)

    def refused(self, desk, row, error):
        kept = copy.deepcopy(vars(desk))
        with self.assertRaises(error) as caught:
            desk.say(row)
        self.assertEqual(vars(desk), kept)
        return caught.exception


class Kept(Asked):
    def test_told_things(self):
        self.answers(Desk(), [("form doc " + DOC, "ok"), ("grove one note list(item)", "ok"),
                              ("changer it 2; 0 list = row(1) 0; 1 item = {}", "ok"), ("show one", "note list(item)"),
                              ("fits doc one", "yes"), ("change two it one", "ok"), ("show two", "note row item")])

    def test_join_then_common_less(self):
        desk = told("form a A = a", "form b B = b*", "grove none ", "grove a a", "grove b b b", "grove ab a b",
                    "grove ba b a")
        for row, fitting in [("join", ["none", "a", "b"]), ("then", ["a", "ab"]), ("common", []), ("less", ["a"])]:
            self.assertEqual(desk.say(f"{row} new a b"), "ok")
            for grove in ["none", "a", "b", "ab", "ba"]:
                self.assertEqual(desk.say(f"fits new {grove}") == "yes", grove in fitting, (row, grove))
        self.answers(desk, [("less new b a", "ok"), ("same new b", "yes"), ("then new b a", "ok"),
                            ("fits new ba", "yes"),
                            ("fits new ab", "no 2"), ("common new b b", "ok"), ("same new b", "yes")])

    def test_again_inside_back(self):
        desk = told("form a A = a", "grove none ", "grove a a", "grove aa a a", "grove in b(a)", "grove out a(b)",
                    "changer cut 1; 0 b = {}", "form ab A = {a | b}*", "grove mixed a b b", "grove aab a a b")
        self.answers(desk, [("again new a", "ok"), ("fits new none", "yes"), ("fits new aa", "yes"),
                            ("fits new in", "no 0"),
                            ("inside new b a", "ok"), ("fits new in", "yes"), ("fits new a", "no 0"),
                            ("fits new out", "no 0"), ("inside new a a", "ok"), ("fits new aa", "no 1"),
                            ("back new cut ab a", "ok"), ("fits new mixed", "yes"), ("fits new aab", "no 2"),
                            ("fits new none", "no 0"), ("fits new a", "yes")])

    def test_mend(self):
        desk = told("form doc " + DOC, "grove good note", "grove bad list(x) y note(z)", "form one A = a(b)",
                    "grove g ")
        self.answers(desk, [("mend new doc good", "0"), ("show new", "note"), ("mend new doc bad", "3"),
                            ("show new", "list(item) note"), ("mend g one g", "2"), ("show g", "a(b)")])

    def test_a_thing_takes_anothers_place(self):
        desk = told("form f A = a", "grove g a", "changer c 1; 0 a = b", "grove b b", "form x X = b")
        self.answers(desk, [("fits f g", "yes"), ("form f A = b", "ok"), ("fits f g", "no 0"), ("grove g b", "ok"),
                            ("fits f g", "yes"), ("changer c 1; 0 b = c", "ok"), ("change g c g", "ok"),
                            ("show g", "c"),
                            ("join f f f", "ok"), ("fits f b", "yes"), ("inside f f f", "ok"), ("fits f b", "no 0"),
                            ("mend g x g", "1"), ("show g", "b")])

    def test_three_shelves_apart(self):
        desk = told("form x A = a", "grove x a", "changer x 1; 0 a = {}")
        self.answers(desk, [("fits x x", "yes"), ("change y x x", "ok"), ("show y", ""), ("show x", "a"),
                            ("safe x x x", "no a"), ("fits x y", "no 0")])
        for row in ["fits y x", "change n y x", "sorts y"]:
            self.assertEqual(self.refused(desk, row, NoName).name, "y")
        only = told("grove x a")
        for row in ["fits x x", "least x", "change y x x", "safe x x x"]:
            self.assertEqual(self.refused(only, row, NoName).name, "x")

    def test_texts_without_signs(self):
        desk = told("grove g ", "form f A = {}")
        self.answers(desk, [("show g", ""), ("fits f g", "yes"), ("changer c 1", "ok"), ("pipe c f f ", "yes yes")])
        self.refused(desk, "form f ", NoBook)
        self.refused(desk, "changer c ", NoRecipe)
        self.refused(desk, "grove g", NoRow)
        self.refused(desk, "pipe c f f", NoRow)

    def test_texts_with_blanks_at_their_ends(self):
        desk = told("changer c 1", "form f A = {}")
        for row, place in [("grove g  a", 0), ("grove g a ", 2), ("grove g  ", 0), ("pipe c f f  ", 0),
                           ("pipe c f f a ", 2)]:
            self.assertEqual(self.refused(desk, row, NoGrove).place, place)
        self.refused(desk, "form f  A = a", NoBook)
        self.refused(desk, "changer c 1 ", NoRecipe)

    def test_two_desks_side_by_side(self):
        one, other = Desk(), Desk()
        one.say("grove g a")
        self.refused(other, "show g", NoName)
        other.say("grove g b")
        self.answers(one, [("show g", "a")])
        self.answers(other, [("show g", "b")])
        self.answers(Desk(), [("grove h c", "ok"), ("show h", "c")])
        self.refused(Desk(), "show h", NoName)


class Trimmed(Asked):
    def test_kept_trimmed(self):
        # Of 3 kinds each; 9, 27 and 81 if they were not trimmed.
        desk = told("form f A = a")
        for _ in range(6):
            self.answers(desk, [("common f f f", "ok")])
        desk.say("form other A = b")
        for _ in range(6):
            self.answers(desk, [("less f f other", "ok")])
        self.answers(desk, [("least f", "some a")])

    def test_just_the_trimmed_form(self):
        desk = told("form f " + DOC, "form g A = note*", "changer c 1; 0 list = {}")
        doc = trimmed(form_of(books.read(DOC)))
        notes = trimmed(form_of(books.read("A = note*")))
        made = recipes.read("1; 0 list = {}")
        for row, wanted in [("common n f g", common(doc, notes)), ("less n f g", less(doc, notes)),
                            ("back n c f g", asked_back(made, doc, notes))]:
            desk.say(row)
            self.assertEqual(desk.shelves["form"]["n"], trimmed(wanted))
            self.assertEqual(desk.say("sorts n"), str(sorts(trimmed(wanted))[0]))

    def test_refused_ahead_of_trimming(self):
        # Nine kinds each, and nothing in common, so that one would be left at most.
        desk = told("form f A = a a a a a a a", "form g A = b b b b b b b")
        self.refused(desk, "common n f g", TooMany)
        self.refused(desk, "common f f g", TooMany)
        self.answers(desk, [("least f", "some a a a a a a a")])
        # 67 places, of which none may come.
        dead = "A = a(B); B = a(B)" + " a" * 65
        self.refused(desk, "form n " + dead, TooMany)
        self.answers(desk, [("form n A = a(B); B = a(B)", "ok"), ("least n", "none"), ("sorts n", "0")])


class Answered(Asked):
    def test_fits(self):
        desk = told("form doc " + DOC, "form one A = a(b)")
        for text, answer in [("", "yes"), ("note", "yes"), ("list", "no 1"), ("note item", "no 2"), ("x", "no 0"),
                             ("list(item(item))", "no 2")]:
            desk.say("grove g " + text)
            self.answers(desk, [("fits doc g", answer)])
        self.answers(desk, [("grove g ", "ok"), ("fits one g", "no 0"), ("grove g a(b)", "ok"), ("fits one g", "yes")])
        # All words begin a grove that fits, but they are none's.
        self.answers(told("form f A = a b", "grove g a"), [("fits f g", "no 2")])

    def test_within_and_same(self):
        desk = told("form some A = a+", "form many A = a*", "form all A = a a*", "form nest A = a(A)*")
        self.answers(desk, [("within some many", "yes"), ("within many some", "no "), ("same some many", "no "),
                            ("same many some", "no "), ("same some all", "yes"), ("within some all", "yes"),
                            ("within nest many", "no a(a)"), ("same many nest", "no a(a)"),
                            ("within many nest", "yes")])

    def test_safe(self):
        desk = told("changer cut 1; 0 item = {}", "changer gone 1; 0 list = {}; 0 note = {}", "form doc " + DOC,
                    "form notes A = note*", "form none A = x", "changer same 1")
        self.answers(desk, [("safe same doc doc", "yes"), ("safe cut doc doc", "no list(item)"),
                            ("safe cut notes doc", "yes"), ("safe gone doc notes", "yes"),
                            ("safe same doc notes", "no list(item)"), ("safe same doc none", "no ")])

    def test_least(self):
        desk = told("form doc " + DOC, "form one A = b(c) | a", "form never A = a(A)")
        self.answers(desk, [("least doc", "some "), ("least one", "some a"), ("least never", "none")])

    def test_sorts(self):
        desk = told("form doc " + DOC, "form never A = a(A)", "form all A = a(A)*")
        self.answers(desk, [("sorts doc", "3"), ("sorts never", "0"), ("sorts all", "1")])

    def test_show(self):
        desk = Desk()
        for text in ["", "a", "a(b c(d)) e"]:
            self.answers(desk, [("grove g " + text, "ok"), ("show g", text)])

    def test_pipe(self):
        desk = told("form doc " + DOC, "form rows A = row row?", "form any A = {row | note}*",
                    "changer c 1; 0 item = row; 0 list = 0")
        self.answers(desk, [
            ("pipe c doc rows list(item)", "yes yes"), ("pipe c doc rows list(item item)", "yes yes"),
            ("pipe c doc rows ", "yes no"), ("pipe c doc rows list(item item item)", "broken 4"),
            ("pipe c doc rows note", "broken 0"), ("pipe c doc rows list(item) x", "stuck 4"),
            ("pipe c doc rows note x", "stuck 2"), ("pipe c doc any list", "stuck 1"),
            ("pipe c doc any note", "yes yes"),
            ("pipe c rows rows row", "yes yes"), ("pipe c rows any ", "no yes"), ("pipe c rows rows ", "no no")])


class Refused(Asked):
    def full(self):
        """A desk with things by one name on each shelf."""
        return told("form f " + DOC, "grove g note", "changer c 1; 0 note = 0")

    def test_no_row(self):
        desk = self.full()
        for row in ["", " ", "form", "form ", "f", "Form f A = a", "FORM f A = a", "forms f A = a", "for f A = a",
                    " form f A = a",
                    "form f", "form  A = a", "form F A = a", "form abcdefghi A = a", "form f1 A = a", "grove g",
                    "grove",
                    "grove  a", "grove G a", "changer c", "changer C 1", "changer  1", "join", "join n", "join n f",
                    "join n f f f", "join n f f ", "join  n f f", "join n  f f", "join n f F", "join N f f",
                    "join n f  f", "join n F f", " join n f f", "again n", "again n f f", "again N f", "again n F",
                    "inside n f", "inside n t", "inside n T f", "inside n abcdefghi f", "inside n t f f", "inside n  f",
                    "inside N t f", "inside n t F", "back n c f", "back n c f f f", "back n C f f", "change n c",
                    "change n c g g", "change N c g", "change n c G", "mend n f", "mend n f g g", "mend N f g",
                    "fits f", "fits f g g", "fits  f g", "fits f g ", "fits f  g", "fits F g", "within f",
                    "within f f f",
                    "same f", "same f f f", "safe c f", "safe c f f f", "safe C f f", "least", "least ", "least f f",
                    "least f ", "least F", "pipe c f f", "pipe c f", "pipe C f f note", "pipe c  f note", "sorts",
                    "sorts f f",
                    "show", "show g g", "show g ", "show ", "fits\tf g", "fits,f,g", "nearest f g", "changed n c g",
                    "everything n a", "price g", "show gg1", "show abcdefghi"]:
            self.refused(desk, row, NoRow)

    def test_each_row_with_too_few_and_too_many_words(self):
        good = ["form n A = a", "grove n a", "changer n 1", "join n f f", "then n f f", "common n f f", "less n f f",
                "again n f", "inside n t f", "back n c f f", "change n c g", "mend n f g", "fits f g", "within f f",
                "same f f", "safe c f f", "least f", "pipe c f f note", "sorts f", "show g"]
        self.assertEqual([row.split()[0] for row in good], EACH)
        for row in good:
            desk = self.full()
            self.assertIsInstance(desk.say(row), str)
            words = row.split(" ")
            has_text = words[0] in ("form", "grove", "changer", "pipe")
            names = len(words[:5 if words[0] == "pipe" else 3]) - 1 if has_text else len(words)
            for count in range(1, names):
                self.refused(desk, " ".join(words[:count]), NoRow)
            for at in range(1, names):
                for bad in ["", "F", "f1", "abcdefghi", "a-b"]:
                    self.refused(desk, " ".join(words[:at] + [bad] + words[at + 1:]), NoRow)
            if not has_text:
                self.refused(desk, row + " f", NoRow)
                self.refused(desk, row + " ", NoRow)

    def test_no_name(self):
        desk = self.full()
        for row, name in [("join n x f", "x"), ("join n f x", "x"), ("join n x y", "x"), ("then n y x", "y"),
                          ("common n f x", "x"), ("less n x f", "x"), ("again n x", "x"), ("inside n t x", "x"),
                          ("back n x y z", "x"), ("back n c y z", "y"), ("back n c f z", "z"), ("change n x y", "x"),
                          ("change n c y", "y"), ("mend n x y", "x"), ("mend n f y", "y"), ("fits x y", "x"),
                          ("fits f y", "y"), ("within x y", "x"), ("within f y", "y"), ("same x y", "x"),
                          ("same f y", "y"), ("safe x y z", "x"), ("safe c y z", "y"), ("safe c f z", "z"),
                          ("least x", "x"), ("pipe x y z note", "x"), ("pipe c y z note", "y"),
                          ("pipe c f z note", "z"),
                          ("sorts x", "x"), ("show x", "x"), ("show f", "f"), ("fits g f", "g"), ("least g", "g"),
                          ("change n f g", "f"), ("join n c f", "c")]:
            self.assertEqual(self.refused(desk, row, NoName).name, name)
        # What is to be new needn't stand, nor a tag.
        self.answers(desk, [("inside g t f", "ok"), ("again x f", "ok")])

    def test_no_row_comes_first(self):
        desk = self.full()
        for row in ["join n x F", "fits x y z", "pipe x y z", "back N x y z", "inside n T x", "safe x y Z"]:
            self.refused(desk, row, NoRow)

    def test_no_name_comes_ahead_of_what_is_asked(self):
        desk = told("changer twice 1; 0 a = 0 0", "form f A = a", "form never A = a(A)")
        for row in ["pipe twice f x ((", "pipe x f f ((", "pipe twice x f a", "mend n never x", "change n twice x"]:
            self.assertEqual(self.refused(desk, row, NoName).name, "x")

    def test_a_text_comes_ahead_of_the_rest(self):
        desk = told("changer twice 1; 0 a = 0 0", "form f A = a")
        self.assertEqual(self.refused(desk, "pipe twice f f a b(", NoGrove).place, 4)
        self.refused(desk, "pipe twice f f " + written(flat(301)), TooBig)
        self.refused(desk, "pipe twice f f " + written(nested(101)), TooBig)
        self.refused(desk, "pipe twice f f a", NotStraight)
        self.refused(desk, "pipe twice f f x", NotStraight)

    def test_texts(self):
        desk = self.full()
        for row, error in [("form n a", NoBook), ("form n A = a;", NoBook), ("form n A = a; A = b", TwiceNamed),
                           ("form n A = B", NoName), ("form n A = B; B = A", Ring), ("grove n a(", NoGrove),
                           ("grove n A", NoGrove), ("changer n 5", NoRecipe),
                           ("changer n 1; 0 b = {}; 0 a = {}", NoRecipe),
                           ("form n " + "A = " + "a" * 401, NoBook), ("pipe c f f note)", NoGrove)]:
            self.refused(desk, row, error)
        self.assertEqual(self.refused(desk, "form n A = a; B = b; A = B", TwiceNamed).name, "A")
        self.assertEqual(self.refused(desk, "form n A = C; B = D", NoName).name, "C")
        self.assertEqual(sorted(self.refused(desk, "form n A = B; B = A", Ring).names), ["A", "B"])
        self.assertEqual(self.refused(desk, "grove n a(b", NoGrove).place, 3)
        self.assertEqual(self.refused(desk, "pipe c f f note)", NoGrove).place, 4)

    def test_as_what_is_asked_refuses(self):
        desk = told("form never A = a(A)", "form f A = a", "grove g a", "changer double 1; 0 a = b(0) b(0)",
                    "grove deep " + written(nested(60)), "changer more 1; 0 a = a(a(0))",
                    "form all A = " + " ".join(tag_names(30)), "form wide A = " + " ".join(["a"] * 62),
                    "form two A = a(B B); B = b(C C); C = c(D D); D = d(E E); E = e(F F); F = f(G G); G = g(H H); "
                    "H = h h")
        for row, error in [("mend g never g", NoneFits), ("change g double deep", TooBig),
                           ("change g more deep", TooBig),
                           ("join n wide f", TooMany), ("then n wide f", TooMany), ("again n wide", TooMany),
                           ("common n wide f", TooMany), ("least two", TooBig), ("mend n two g", TooBig),
                           ("within two f", TooBig), ("less n two f", TooBig), ("same two f", TooBig),
                           ("back n double two f", TooBig), ("safe double two f", TooBig), ("sorts all", TooMany)]:
            self.refused(desk, row, error)

    def test_groves_of_300_tags_and_100_deep(self):
        desk = told("form a A = a(A)*", "changer same 1")
        for grove in [flat(300), nested(100), nested(100) + flat(200)]:
            self.answers(desk, [("grove g " + written(grove), "ok"), ("show g", written(grove)), ("fits a g", "yes"),
                                ("change n same g", "ok"), ("show n", written(grove)),
                                ("pipe same a a " + written(grove), "yes yes")])
        for grove in [flat(301), nested(101), nested(100) + flat(201), flat(1) + nested(101)]:
            self.refused(desk, "grove g " + written(grove), TooBig)
            self.refused(desk, "pipe same a a " + written(grove), TooBig)
        self.refused(desk, "grove g " + written(flat(301)) + " ", NoGrove)
        self.answers(desk, [("show g", written(nested(100) + flat(200)))])

    def test_a_mended_grove_of_300_and_301_tags(self):
        # Twice the tags of the next name, and one more: 255 of them, of which one `z` may become the first.
        doubled = "A = a(B B) z*; B = b(C C); C = c(D D); D = d(E E); E = e(F F); F = f(G G); G = g(H H); H = h"
        desk = told("form f " + doubled, "grove new x", "grove g " + written(flat(46, "z")))
        self.answers(desk, [("mend new f g", "255"), ("fits f new", "yes"),
                            ("grove g " + written(flat(47, "z")), "ok")])
        kept = desk.say("show new")
        self.refused(desk, "mend new f g", TooBig)
        self.refused(desk, "mend g f g", TooBig)
        self.answers(desk, [("show new", kept), ("show g", written(flat(47, "z")))])

    def test_a_mended_grove_100_and_101_deep(self):
        # Within the innermost `a` ten tags more are missing, and to name those around it would cost more.
        tower = ()
        desk = told("form f A = a(A s s) | " + "b(" * 9 + "b" + ")" * 9, "grove new x")
        for count in range(1, 92):
            tower = (("a", tower + flat(2, "s")),)
            desk.say("grove g " + written(tower))
            if count == 90:
                self.answers(desk, [("mend new f g", "10"), ("fits f new", "yes")])
        self.refused(desk, "mend new f g", TooBig)
        self.answers(desk, [("fits f new", "yes"), ("show g", written(tower))])


if __name__ == "__main__":
    unittest.main()
