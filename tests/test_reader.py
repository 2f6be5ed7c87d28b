import random
import unittest

from formgrove.errors import TooBig
from formgrove.forms import form, live
from formgrove.least import least
from formgrove.reader import Reader
from samples import fitting, groves_up_to, of_count, random_parts, spelled

# One tree `list` or more, each with one `item` or more within; kind 3 isn't live.
LISTS = form(5, [0, 3], [2], [(0, "list", 1, 0), (0, "list", 1, 2), (1, "item", 2, 4), (1, "item", 2, 2),
                              (4, "item", 2, 2), (0, "item", 3, 2), (0, "note", 2, 3), (3, "list", 3, 3)])
NO_GROVE = [form(0, [], [], []), form(1, [], [0], [(0, "a", 0, 0)]), form(1, [0], [], [(0, "a", 0, 0)]),
            form(2, [1], [0], [(1, "a", 1, 0), (1, "a", 0, 1)])]
ODD_WORDS = ["", " ", "//", "A", "a b", "a/", "item ", "lists", "abcdefghi", "(", "~", "0"]


def taken(form, words):
    """A reader that has taken all these words."""
    reader = Reader(form)
    for word in words:
        if not reader.take(word):
            raise AssertionError(word)
    return reader


class Ways:
    """All ways to come through words: a kind at which one is, and the rests that wait, tried one by one."""

    def __init__(self, form):
        self.form = form
        self.alive = live(form)
        self.ways = {(start, ()) for start in form[1] if start in self.alive}

    def after(self, word):
        found = set()
        for now, rests in self.ways:
            if word == "/" and rests and now in self.form[2]:
                found.add((rests[-1], rests[:-1]))
            for kind, tag, inner, rest in self.form[3]:
                if (kind, tag) == (now, word) and inner in self.alive and rest in self.alive:
                    found.add((inner, rests + (rest,)))
        return found

    def ends_well(self):
        return any(not rests and now in self.form[2] for now, rests in self.ways)

    def finish(self, words):
        """The first of the shortest ends, told of the words of each kind's least grove."""
        ends = [sum([["/"] + words[rest] for rest in reversed(rests)], words[now]) for now, rests in self.ways]
        return min(ends, key=lambda end: (len(end), end), default=None)


class Take(unittest.TestCase):
    def test_ordinary(self):
        reader = Reader(LISTS)
        for word, good, height in [("/", False, 0), ("item", False, 0), ("list", True, 1), ("/", False, 1),
                                   ("list", False, 1), ("item", True, 2), ("item", False, 2), ("/", True, 1),
                                   ("item", True, 2), ("/", True, 1), ("item", False, 1), ("/", True, 0),
                                   ("/", False, 0), ("list", True, 1)]:
            self.assertIs(reader.take(word), good)
            self.assertEqual(reader.height(), height)

    def test_any_text_may_come(self):
        for start in [[], ["list"], ["list", "item", "/"]]:
            reader = taken(LISTS, start)
            before = reader.pile(), reader.height(), reader.goes_on(), reader.finish(), reader.ends_well()
            for word in ODD_WORDS:
                self.assertIs(reader.take(word), False)
            self.assertEqual((reader.pile(), reader.height(), reader.goes_on(), reader.finish(), reader.ends_well()),
                             before)

    def test_no_live_start(self):
        for made in NO_GROVE:
            reader = Reader(made)
            for word in ["a", "/"] + ODD_WORDS:
                self.assertIs(reader.take(word), False)
            self.assertEqual(reader.pile(), [[]])
            self.assertEqual(reader.goes_on(), [])
            self.assertIs(reader.ends_well(), False)
            self.assertIsNone(reader.finish())
            self.assertEqual(reader.height(), 0)

    def test_rules_that_are_not_live_take_nothing(self):
        reader = Reader(LISTS)
        self.assertIs(reader.take("item"), False)
        self.assertIs(reader.take("note"), False)
        self.assertEqual(reader.goes_on(), ["list"])

    def test_a_form_without_tags(self):
        reader = Reader(form(1, [0], [0], []))
        self.assertIs(reader.take("a"), False)
        self.assertIs(reader.take("/"), False)
        self.assertIs(reader.ends_well(), True)
        self.assertEqual(reader.finish(), [])

    def test_what_stands_within_decides_what_may_come_behind(self):
        made = form(6, [0], [5], [(0, "a", 1, 2), (0, "a", 3, 4), (1, "b", 5, 5), (3, "c", 5, 5), (2, "d", 5, 5),
                                  (4, "e", 5, 5)])
        self.assertEqual(taken(made, ["a", "b", "/", "/"]).goes_on(), ["d"])
        self.assertEqual(taken(made, ["a", "c", "/", "/"]).goes_on(), ["e"])

    def test_against_all_ways(self):
        chance = random.Random(15)
        for _ in range(300):
            made = form(*random_parts(chance, 4, ["a", "b"], 10))
            reader = Reader(made)
            ways = Ways(made)
            for _ in range(9):
                good = [word for word in ["/", "a", "b"] if ways.after(word)]
                self.assertEqual(reader.goes_on(), good)
                self.assertEqual(reader.ends_well(), ways.ends_well())
                word = chance.choice(["/", "a", "b"] + good * 4)
                self.assertIs(reader.take(word), word in good)
                if word in good:
                    ways.ways = ways.after(word)

    def test_against_all_small_groves(self):
        chance = random.Random(16)
        groves = groves_up_to(4, ["a", "b"])
        for _ in range(40):
            made = form(*random_parts(chance, 3, ["a", "b"], 8))
            good = [spelled(grove) for grove in fitting(made, groves)]
            for words in good:
                reader = taken(made, words)
                self.assertTrue(reader.ends_well())
            for grove in groves:
                reader = Reader(made)
                well = all([reader.take(word) for word in spelled(grove)]) and reader.ends_well()
                self.assertEqual(well, spelled(grove) in good)


class Pile(unittest.TestCase):
    def test_ordinary(self):
        reader = Reader(LISTS)
        self.assertEqual(reader.pile(), [[(0, 0)]])
        reader.take("list")
        self.assertEqual(reader.pile(), [[(0, 0)], [(1, 1)]])
        reader.take("item")
        self.assertEqual(reader.pile(), [[(0, 0)], [(1, 1)], [(2, 2)]])
        reader.take("/")
        self.assertEqual(reader.pile(), [[(0, 0)], [(1, 2), (1, 4)]])
        reader.take("/")
        self.assertEqual(reader.pile(), [[(0, 0), (0, 2)]])

    def test_many_starts_and_inners(self):
        made = form(5, [0, 1, 3], [1, 2], [(0, "a", 2, 1), (0, "a", 1, 2), (1, "a", 2, 2), (1, "a", 3, 2),
                                          (2, "a", 4, 3), (2, "b", 4, 2), (4, "b", 1, 2)])
        reader = Reader(made)
        self.assertEqual(reader.pile(), [[(0, 0), (1, 1)]])
        reader.take("a")
        self.assertEqual(reader.pile(), [[(0, 0), (1, 1)], [(1, 1), (2, 2)]])
        reader.take("b")
        self.assertEqual(reader.pile()[2], [(4, 4)])
        self.assertFalse(reader.take("/"))
        reader.take("b")
        reader.take("/")
        self.assertEqual(reader.pile(), [[(0, 0), (1, 1)], [(1, 1), (2, 2)], [(4, 2)]])
        reader.take("/")
        self.assertEqual(reader.pile(), [[(0, 0), (1, 1)], [(2, 2)]])
        reader.take("/")
        self.assertEqual(reader.pile(), [[(0, 1), (1, 2)]])

    def test_as_the_document_tells(self):
        chance = random.Random(17)
        for _ in range(200):
            made = form(*random_parts(chance, 5, ["a", "b"], 14))
            alive = live(made)
            rules = [rule for rule in made[3] if rule[2] in alive and rule[3] in alive]
            reader = Reader(made)
            tags = []
            pile = [sorted({(start, start) for start in made[1] if start in alive})]
            for _ in range(12):
                self.assertEqual(reader.pile(), pile)
                self.assertEqual(len(pile), reader.height() + 1)
                word = chance.choice(["/", "a", "b"])
                if not reader.take(word):
                    continue
                if word == "/":
                    ended = [begin for begin, now in pile.pop() if now in made[2]]
                    tag = tags.pop()
                    pile[-1] = sorted({(begin, rest) for begin, now in pile[-1] for kind, name, inner, rest in rules
                                       if (kind, name) == (now, tag) and inner in ended})
                else:
                    tags.append(word)
                    pile.append(sorted({(inner, inner) for begin, now in pile[-1] for kind, name, inner, rest in rules
                                        if (kind, name) == (now, word)}))

    def test_as_high_as_the_open_tags(self):
        made = form(1, [0], [0], [(0, "a", 0, 0)])
        reader = taken(made, ["a"] * 100)
        self.assertEqual(reader.pile(), [[(0, 0)]] * 101)
        for word in ["/"] * 100:
            reader.take(word)
        self.assertEqual(reader.pile(), [[(0, 0)]])

    def test_what_is_told_is_the_askers_own(self):
        reader = taken(LISTS, ["list"])
        reader.pile()[0].clear()
        reader.pile().clear()
        reader.goes_on().clear()
        reader.finish().clear()
        kept = reader.pile()
        self.assertEqual(kept, [[(0, 0)], [(1, 1)]])
        self.assertEqual(reader.goes_on(), ["item"])
        self.assertEqual(reader.finish(), ["item", "/", "/"])
        reader.take("item")
        reader.take("/")
        self.assertEqual(kept, [[(0, 0)], [(1, 1)]])


class GoesOn(unittest.TestCase):
    def test_sorted(self):
        made = form(2, [0], [0, 1], [(0, "b", 0, 1), (0, "ab", 0, 0), (0, "ba", 1, 0), (1, "c", 0, 0)])
        self.assertEqual(Reader(made).goes_on(), ["ab", "b", "ba"])
        self.assertEqual(taken(made, ["ab"]).goes_on(), ["/", "ab", "b", "ba"])
        self.assertEqual(taken(made, ["ab", "/"]).goes_on(), ["ab", "b", "ba"])
        self.assertEqual(taken(made, ["ba"]).goes_on(), ["/", "c"])

    def test_just_what_is_taken(self):
        chance = random.Random(18)
        for _ in range(100):
            made = form(*random_parts(chance, 4, ["a", "b", "c"], 10))
            words = []
            for _ in range(8):
                goes_on = taken(made, words).goes_on()
                self.assertEqual(goes_on, [word for word in ["/", "a", "b", "c"] if taken(made, words).take(word)])
                if not goes_on:
                    break
                words.append(chance.choice(goes_on))


class Finish(unittest.TestCase):
    def test_at_the_first_word(self):
        self.assertEqual(Reader(LISTS).finish(), ["list", "item", "/", "/"])
        self.assertEqual(Reader(form(1, [0], [0], [(0, "a", 0, 0)])).finish(), [])

    def test_within_open_tags(self):
        for words, wanted in [(["list"], ["item", "/", "/"]), (["list", "item"], ["/", "/"]),
                              (["list", "item", "/"], ["/"]), (["list", "item", "/", "item"], ["/", "/"]),
                              (["list", "item", "/", "/"], []), (["list", "item", "/", "/", "list"], ["item", "/", "/"])]:
            reader = taken(LISTS, words)
            self.assertEqual(reader.finish(), wanted)
            self.assertIs(reader.ends_well(), wanted == [])
            for word in wanted:
                self.assertTrue(reader.take(word))
            self.assertTrue(reader.ends_well())

    def test_as_few_by_two_ways(self):
        # Behind `a` there may come `/ b /`, or `c / /`: a `/` comes before each tag.
        made = form(5, [0], [4], [(0, "a", 4, 1), (0, "a", 2, 4), (1, "b", 4, 4), (2, "c", 4, 4)])
        self.assertEqual(taken(made, ["a"]).finish(), ["/", "b", "/"])
        # The tag within decides ahead of the one behind.
        made = form(6, [0], [5], [(0, "a", 1, 2), (0, "a", 3, 4), (1, "c", 5, 5), (2, "d", 5, 5), (3, "b", 5, 5),
                                  (4, "e", 5, 5)])
        self.assertEqual(taken(made, ["a"]).finish(), ["b", "/", "/", "e", "/"])
        self.assertEqual(Reader(made).finish(), ["a", "b", "/", "/", "e", "/"])

    def test_fewer_words_come_before_first_ones(self):
        made = form(4, [0], [3], [(0, "a", 3, 1), (0, "a", 2, 3), (1, "b", 3, 2), (2, "c", 3, 3)])
        self.assertEqual(taken(made, ["a"]).finish(), ["c", "/", "/"])

    def test_as_few_by_two_starts(self):
        made = form(5, [0, 1], [4], [(0, "a", 4, 2), (1, "a", 4, 3), (2, "c", 4, 4), (3, "b", 4, 4)])
        self.assertEqual(taken(made, ["a"]).finish(), ["/", "b", "/"])

    def test_against_all_ways(self):
        chance = random.Random(19)
        checked = 0
        for _ in range(400):
            made = form(*random_parts(chance, 5, ["a", "b"], 12))
            words = [None if grove is None else spelled(grove) for grove in least(made)]
            reader = Reader(made)
            ways = Ways(made)
            for _ in range(10):
                self.assertEqual(reader.finish(), ways.finish(words))
                good = reader.goes_on()
                if not good:
                    break
                checked += 1
                word = chance.choice(good)
                reader.take(word)
                ways.ways = ways.after(word)
        self.assertGreater(checked, 500)

    def test_600_and_602_words_at_the_first_word(self):
        for count in [299, 300]:
            made, grove = of_count(count)
            self.assertEqual(Reader(made).finish(), spelled(grove))
        made, grove = of_count(301)
        for count in [0, 1]:
            with self.assertRaises(TooBig):
                taken(made, spelled(grove)[:count]).finish()
        self.assertEqual(taken(made, spelled(grove)[:2]).finish(), spelled(grove)[2:])

    def test_600_and_601_words_within_open_tags(self):
        made, grove = of_count(299)
        start = made[1][0]
        made = form(made[0], [start], made[2], list(made[3]) + [(start, "b", start, 0)])
        for count in [0, 1, 2]:
            self.assertEqual(taken(made, ["b"] * count).finish(), spelled(grove) + ["/"] * count)
        reader = taken(made, ["b"] * 3)
        with self.assertRaises(TooBig):
            reader.finish()
        reader.take(spelled(grove)[0])
        self.assertEqual(reader.finish(), spelled(grove)[1:] + ["/"] * 3)

    def test_a_great_way_beside_a_small_one(self):
        doubles = [(kind, "a", kind - 1, kind - 1) for kind in range(1, 64)]
        made = form(64, [63], [0], doubles + [(63, "z", 2, 0)])
        self.assertEqual(Reader(made).finish(), ["z", "a", "a", "/", "/", "a", "/", "/"])
        with self.assertRaises(TooBig):
            taken(made, ["a"]).finish()
        with self.assertRaises(TooBig):
            Reader(form(64, [63], [0], doubles)).finish()

    def test_far_open(self):
        made = form(2, [0], [1], [(0, "a", 0, 1), (0, "b", 1, 1), (1, "c", 1, 1)])
        reader = taken(made, ["a"] * 99 + ["b"])
        self.assertEqual(reader.finish(), ["/"] * 100)
        reader = taken(made, ["a"] * 100)
        self.assertEqual(reader.finish(), ["b", "/"] + ["/"] * 100)

    def test_many_kinds_at_once(self):
        # Each kind leads to each of some others by one tag: levels are as full as they may be.
        chance = random.Random(20)
        rules = [(kind, "a", chance.randrange(64), chance.randrange(64)) for kind in range(64) for _ in range(6)]
        made = form(64, list(range(64)), [5], rules[:399] + [(0, "a", 5, 5)])
        reader = Reader(made)
        for _ in range(3):
            for word in ["a"] * 99 + ["/"] * 98:
                if not reader.take(word):
                    break
        end = reader.finish()
        for word in end:
            self.assertTrue(reader.take(word))
        self.assertTrue(reader.ends_well())


class Handed(unittest.TestCase):
    def test_a_reader_does_not_hang_on_another(self):
        one = Reader(LISTS)
        other = Reader(LISTS)
        one.take("list")
        self.assertEqual(other.pile(), [[(0, 0)]])
        self.assertEqual(other.height(), 0)


if __name__ == "__main__":
    unittest.main()
