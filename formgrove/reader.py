"""The reader: whether words that come one by one are those of a grove that fits."""

from formgrove.errors import TooBig
from formgrove.forms import live_kinds
from formgrove.least import least
from formgrove.order import rank_of_words
from formgrove.words import words_of

MOST_WORDS = 600


class Reader:
    """The words taken up to now: a level of pairs (begin, now) for the outermost row and each open tag."""

    def __init__(self, form):
        alive = live_kinds(form)
        self.form = form
        self.final = dict([(end, True) for end in form[2]])
        self.ways = {}
        for kind, tag, inner, rest in form[3]:
            if inner in alive and rest in alive:
                self.ways.setdefault(kind, {}).setdefault(tag, []).append((inner, rest))
        self.levels = [[(start, start) for start in form[1] if start in alive]]
        self.tags = []

    def ways_from(self, kind, tag):
        """The pairs (inner, rest) of the rules of a kind and a tag whose inner and rest are live."""
        return self.ways.get(kind, {}).get(tag, [])

    def take(self, word):
        """True where the word is taken; else False, and all stays as it was."""
        return self.take_end() if word == "/" else self.take_tag(word)

    def take_tag(self, tag):
        """What `take` tells, of a word that isn't `/`."""
        begins = {}
        for begin, now in self.levels[-1]:
            for inner, rest in self.ways_from(now, tag):
                begins[inner] = True
        if not begins:
            return False
        self.levels.append([(begin, begin) for begin in sorted(begins)])
        self.tags.append(tag)
        return True

    def take_end(self):
        """What `take` tells, of the word `/`."""
        ended = self.ended()
        if not self.tags or not ended:
            return False
        tag = self.tags.pop()
        self.levels.pop()
        pairs = {}
        for begin, now in self.levels[-1]:
            for inner, rest in self.ways_from(now, tag):
                if inner in ended:
                    pairs[(begin, rest)] = True
        self.levels[-1] = sorted(pairs)
        return True

    def ended(self):
        """The begins of the last level's row, as the keys of a dict, with which it may end now."""
        return dict([(begin, True) for begin, now in self.levels[-1] if now in self.final])

    def height(self):
        """How many tags are open."""
        return len(self.tags)

    def ends_well(self):
        """Whether the words taken are those of a grove that fits."""
        return not self.tags and len(self.ended()) > 0

    def goes_on(self):
        """The sorted list of the words that would be taken."""
        found = ["/"] if self.tags and self.ended() else []
        for begin, now in self.levels[-1]:
            found.extend(self.ways.get(now, {}))
        return sorted(set(found))

    def pile(self):
        """The levels, from the outermost row to that within the innermost open tag."""
        return [list(level) for level in self.levels]

    def finish(self):
        """The first of the shortest lists of words with which a grove that fits is ended; None where none fits."""
        if not self.levels[0]:
            return None
        rows = [None if grove is None else words_of(grove) for grove in least(self.form)]
        behind = dict([(begin, []) for begin, now in self.levels[0]])
        for level, tag in zip(self.levels, self.tags):
            behind = self.behind_inner(rows, quickest(level, behind), tag)
        lists = []
        for now, words in quickest(self.levels[-1], behind).items():
            put_together(lists, rows[now], words)
        if not lists:
            raise TooBig("too many words are missing")
        return list(min(lists, key=rank_of_words))

    def behind_inner(self, rows, behind, tag):
        """For each kind at which what is within a tag may have begun: the words that are missing from its end on.

        Told of each kind's least words, and of the words missing behind the row of the tag for each kind ahead of it.
        """
        lists = {}
        for kind, words in behind.items():
            for inner, rest in self.ways_from(kind, tag):
                put_together(lists.setdefault(inner, []), rows[rest], words)
        found = {}
        for inner in lists:
            if lists[inner]:
                found[inner] = ["/"] + min(lists[inner], key=rank_of_words)
        return found


def quickest(level, behind):
    """For each kind at which one may be on a level the best words that are missing behind its row, told of them
    for each begin."""
    found = {}
    for begin, now in level:
        if begin in behind:
            words = behind[begin]
            found[now] = min([words, found.get(now, words)], key=rank_of_words)
    return found


def put_together(lists, row, words):
    """Put a row's words and those missing behind it among some lists, unless the row or both have too many."""
    if row is not None and len(row) + len(words) <= MOST_WORDS:
        lists.append(row + words)
