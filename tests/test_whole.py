"""The promise over the whole program, sentence by sentence."""
import random
import unittest

from formgrove.books import read, shown
from formgrove.build import form_of
from formgrove.changers import changed
from formgrove.changes import distance, done, price
from formgrove.effects import Effects
from formgrove.errors import NoneFits, TooBig, TooMany
from formgrove.joins import again, common, everything, inside, join, then
from formgrove.judge import first_bad
from formgrove.least import fewest, least_of
from formgrove.meaning import meant
from formgrove.measures import Kinds
from formgrove.nearest import nearest
from formgrove.pipe import Pipe
from formgrove.prices import paper
from formgrove.reader import Reader
from formgrove.runs import fits, run_of, walks
from formgrove.safety import asked_back, safe
from formgrove.settings import parted
from formgrove.sorts import equal, firsts, sort_of, sorts
from formgrove.stream import Stream
from formgrove.tables import holds
from formgrove.within import less, parting, within
from formgrove.words import closings, grove_of, words_of
from samples import beside, groves_up_to, lively_form, random_book, random_changer, random_straight, spelled

TAGS = ["a", "b"]
GROVES = groves_up_to(4, TAGS)
SMALL = GROVES[:51]


def key(grove):
    return (len(spelled(grove)), spelled(grove))


def forms(seed, count):
    """Forms of books and others."""
    chance = random.Random(seed)
    found = [lively_form(chance, 3, TAGS, 9) for _ in range(count)]
    while len(found) < 2 * count:
        made = form_of(random_book(chance, 3))
        if made[0] <= 8:
            found.append(made)
    chance.shuffle(found)
    return found


def fitting(made, groves):
    return [grove for grove in groves if fits(made, grove)]


class Whole(unittest.TestCase):
    def test_a_run_or_the_first_bad_place(self):
        for made in forms(80, 12):
            wanted = fitting(made, GROVES)
            starts = {tuple(spelled(grove)[:count]) for grove in wanted for count in range(len(spelled(grove)) + 1)}
            for grove in SMALL:
                words = words_of(grove)
                place = first_bad(made, words)
                run = run_of(made, grove)
                self.assertEqual(fits(made, grove), place is None)
                self.assertEqual(run is None, place is not None)
                if run is not None:
                    self.assertTrue(walks(made, grove, run))
                else:
                    # Ahead of the place some grove that fits goes on so; a small one, or one that the reader ends.
                    self.assertNotIn(tuple(words[:place + 1]) if place < len(words) else None, starts)
                    reader = Reader(made)
                    for word in words[:place]:
                        self.assertTrue(reader.take(word))
                    if reader.finish() is not None:
                        self.assertTrue(fits(made, grove_of(words[:place] + reader.finish())))

    def test_the_reader_says_the_same_at_that_very_word(self):
        for made in forms(81, 12):
            for grove in SMALL:
                words = words_of(grove)
                place = first_bad(made, words)
                reader = Reader(made)
                for number, word in enumerate(words):
                    self.assertEqual(len(reader.pile()), reader.height() + 1)
                    if not reader.take(word):
                        self.assertEqual(place, number)
                        break
                else:
                    self.assertEqual(reader.ends_well(), place is None)
                    self.assertIn(place, [None, len(words)])

    def test_a_safe_changer_or_the_least_grove_that_it_spoils(self):
        chance = random.Random(82)
        seen = set()
        for one in forms(83, 25):
            made = random_changer(chance, chance.randrange(1, 4), TAGS, 2)
            other = chance.choice([everything(TAGS), chance.choice(forms(84, 4))])
            try:
                told = safe(made, one, other)
                back = asked_back(made, one, other)
            except (TooMany, TooBig):
                continue
            seen.add(told[0])
            good = []
            for grove in fitting(one, SMALL):
                try:
                    good += [grove] if fits(other, changed(made, grove)) else []
                except TooBig:
                    good += [grove] if fits(back, grove) else []
            self.assertEqual(good, fitting(back, SMALL))
            if told[0] == "safe":
                self.assertEqual(good, fitting(one, SMALL))
                self.assertTrue(holds(one, Effects(made, other), told[1]))
                self.assertIsNone(parting(one, back))
            else:
                self.assertTrue(fits(one, told[1]))
                self.assertFalse(fits(back, told[1]))
                self.assertEqual(parting(one, back), told[1])
        self.assertEqual(seen, {"safe", "unsafe"})

    def test_words_changed_as_they_come(self):
        chance = random.Random(85)
        count = 0
        for one in forms(86, 30):
            made = random_straight(chance, chance.randrange(1, 4), TAGS, 2)
            other = chance.choice([everything(TAGS), chance.choice(forms(87, 4))])
            try:
                is_safe = safe(made, one, other)[0] == "safe"
            except (TooMany, TooBig):
                continue
            for grove in fitting(one, SMALL)[:12]:
                stream = Stream(made)
                pipe = Pipe(made, one, other)
                came = []
                for word in words_of(grove):
                    came += stream.take(word)
                    self.assertTrue(pipe.take(word))
                    self.assertEqual(pipe.came(), came)
                    self.assertTrue(pipe.broken() is None or not is_safe)
                self.assertEqual(came, words_of(changed(made, grove)))
                self.assertEqual(pipe.ends_well(), (True, fits(other, changed(made, grove))))
                count += is_safe
        self.assertGreater(count, 30)

    def test_one_form_within_another(self):
        made = forms(88, 12)
        seen = set()
        for one, other in zip(made, made[1:]):
            for pair in [(one, other), (one, join(one, other)), (common(one, other), other)]:
                try:
                    told = within(*pair)
                except (TooMany, TooBig):
                    continue
                seen.add(told[0])
                missed = [grove for grove in fitting(pair[0], GROVES) if not fits(pair[1], grove)]
                if told[0] == "within":
                    self.assertTrue(holds(pair[0], Kinds(pair[1]), told[1]))
                    self.assertEqual(missed, [])
                else:
                    self.assertTrue(fits(pair[0], told[1]) and not fits(pair[1], told[1]))
                    self.assertEqual(told[1], least_of(less(*pair)))
                    self.assertEqual(told[1], min(missed + [told[1]], key=key))
        self.assertEqual(seen, {"within", "not"})

    def test_forms_made_of_forms(self):
        made = forms(89, 6)
        for one, other in zip(made, made[1:]):
            ones, others = set(fitting(one, SMALL)), set(fitting(other, SMALL))
            many = {()}
            for _ in range(3):
                many |= beside(many, ones, 3)
            for asked, wanted in [(join(one, other), ones | others), (common(one, other), ones & others),
                                  (less(one, other), ones - others), (then(one, other), beside(ones, others, 3)),
                                  (again(one), many), (inside("a", one), {(("a", grove),) for grove in ones})]:
                self.assertEqual(set(fitting(asked, SMALL)), {grove for grove in wanted if grove in SMALL})

    def test_a_books_form(self):
        chance = random.Random(90)
        for _ in range(40):
            book = random_book(chance, 3)
            self.assertEqual(read(shown(book)), book)
            made = form_of(book)
            for grove in SMALL:
                self.assertEqual(fits(made, grove), meant(book, grove))

    def test_sorts(self):
        made = forms(91, 10)
        seen = set()
        for one, other in zip(made, made[1:]):
            for pair in [(one, other), (one, join(one, common(one, other)))]:
                try:
                    same = equal(*pair)
                    apart = parting(*pair)
                except (TooMany, TooBig):
                    continue
                seen.add(same)
                self.assertEqual(same, apart is None)
                known = sorts(pair[0])
                if 1 < known[0] <= 24:
                    least = firsts(known)
                    ahead, behind = parted(known, 0, 1)
                    both = [fits(pair[0], grove_of(ahead + words_of(grove) + behind)) for grove in least[:2]]
                    self.assertEqual(sorted(both), [False, True])
                    self.assertEqual([sort_of(known, grove) for grove in least], list(range(known[0])))
        self.assertEqual(seen, {True, False})

    def test_the_nearest_grove(self):
        chance = random.Random(92)
        for made in forms(93, 20):
            grove = chance.choice(GROVES)
            try:
                told = nearest(made, grove)
            except NoneFits:
                self.assertEqual(fitting(made, GROVES), [])
                continue
            self.assertTrue(fits(made, told[1]))
            self.assertEqual(done(grove, told[2]), told[1])
            self.assertEqual(price(grove, told[2]), told[0])
            self.assertEqual(distance(grove, told[1]), told[0])
            prices = paper(made, grove)
            self.assertEqual(told[0], min(prices[0][start] for start in made[1] if prices[0][start] is not None))
            self.shows(made, words_of(grove), prices)
            for other in fitting(made, SMALL):
                self.assertGreaterEqual((distance(grove, other), key(other)), (told[0], key(told[1])))

    def shows(self, made, words, prices):
        """No change leads to a lower price than the paper's, step by step."""
        ended_at = closings(words)
        counts = fewest(made)
        for place, row in enumerate(prices):
            if place not in ended_at:
                self.assertEqual(row, counts)
                continue
            behind = prices[ended_at[place] + 1]
            for kind in range(made[0]):
                if row[kind] is not None:
                    self.assertLessEqual(row[kind], (ended_at[place] + 1 - place) // 2 + behind[kind])
            for kind, tag, inner, rest in made[3]:
                if counts[inner] is not None and counts[rest] is not None:
                    self.assertLessEqual(row[kind], 1 + counts[inner] + row[rest])
                    self.assertLessEqual(row[kind], (tag != words[place]) + prices[place + 1][inner] + behind[rest])


if __name__ == "__main__":
    unittest.main()
