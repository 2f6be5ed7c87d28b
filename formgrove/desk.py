"""The desk: forms, groves and changers kept by their names, and rows of words that ask for them."""

from formgrove.build import form_told
from formgrove.changers import changed, refuse_great
from formgrove.errors import NoName, NoRow
from formgrove.exprs import Source
from formgrove.forms import trimmed
from formgrove.joins import again, common, inside, join, then
from formgrove.judge import first_bad
from formgrove.least import least_of
from formgrove.nearest import nearest
from formgrove.pipe import Pipe
from formgrove.recipes import take_changer
from formgrove.safety import asked_back, safe
from formgrove.sorts import sorts
from formgrove.texts import read, shown
from formgrove.within import less, parting, within
from formgrove.words import depth, is_tag, size, words_of

# What stands behind the first word of each row: a name that is new or a tag, the name of a thing on a shelf, a text.
ROWS = {
    "form": ("word", "text"),
    "grove": ("word", "text"),
    "changer": ("word", "text"),
    "join": ("word", "form", "form"),
    "then": ("word", "form", "form"),
    "common": ("word", "form", "form"),
    "less": ("word", "form", "form"),
    "again": ("word", "form"),
    "inside": ("word", "word", "form"),
    "back": ("word", "changer", "form", "form"),
    "change": ("word", "changer", "grove"),
    "mend": ("word", "form", "grove"),
    "fits": ("form", "grove"),
    "within": ("form", "form"),
    "same": ("form", "form"),
    "safe": ("changer", "form", "form"),
    "least": ("form",),
    "pipe": ("changer", "form", "form", "text"),
    "sorts": ("form",),
    "show": ("grove",),
}
MAKING = ("form", "join", "then", "common", "less", "again", "inside", "back")


class Desk:
    """Three shelves of things by their names."""

    def __init__(self):
        self.shelves = {"form": {}, "grove": {}, "changer": {}}

    def say(self, row):
        """The answer to a row; where it is refused, nothing is changed."""
        words = words_of_row(row)
        things = self.things_of(words)
        asked = words[0]
        if asked in MAKING:
            return self.keep("form", words[1], trimmed(made_form(asked, things)))
        if asked == "changer":
            return self.keep("changer", words[1], take_changer(Source(things[1])))
        if asked == "grove":
            return self.keep("grove", words[1], read_small(things[1]))
        if asked == "change":
            return self.keep("grove", words[1], changed(things[1], things[2]))
        if asked == "mend":
            told = nearest(things[1], things[2])
            self.keep("grove", words[1], small(told[1]))
            return str(told[0])
        return answer(asked, things)

    def things_of(self, words):
        """What the words behind a row's first one stand for: things on shelves, or they themselves; NoName where a
        thing doesn't stand there."""
        found = []
        for slot, word in zip(ROWS[words[0]], words[1:]):
            if slot not in self.shelves:
                found.append(word)
            elif word in self.shelves[slot]:
                found.append(self.shelves[slot][word])
            else:
                raise NoName(word)
        return found

    def keep(self, shelf, name, thing):
        """Put a thing on a shelf, and tell the answer to a row that does so."""
        self.shelves[shelf][name] = thing
        return "ok"


def words_of_row(row):
    """The words of a row, a text as the last one of them; NoRow where the row isn't one of the list."""
    first = row.split(" ")[0]
    if first not in ROWS:
        raise NoRow(f"no row begins with {first!r}")
    slots = ROWS[first]
    words = row.split(" ", len(slots)) if slots[-1] == "text" else row.split(" ")
    if len(words) != 1 + len(slots):
        raise NoRow("too few words, or too many")
    for slot, word in zip(slots, words[1:]):
        if slot != "text" and not is_tag(word):
            raise NoRow(f"{word!r} is no name")
    return words


def small(grove):
    """A grove; TooBig where it has too many tags or is too deep to be kept."""
    refuse_great(size(grove), depth(grove))
    return grove


def read_small(text):
    """The grove that is written as a text; NoGrove where none is, TooBig where it has too many tags or is too deep."""
    return small(read(text))


def made_form(asked, things):
    """The form that a row makes, told of its first word and what stands behind it."""
    if asked == "form":
        return form_told(things[1])
    if asked == "join":
        return join(things[1], things[2])
    if asked == "then":
        return then(things[1], things[2])
    if asked == "common":
        return common(things[1], things[2])
    if asked == "less":
        return less(things[1], things[2])
    if asked == "again":
        return again(things[1])
    if asked == "inside":
        return inside(things[1], things[2])
    return asked_back(things[1], things[2], things[3])


def answer(asked, things):
    """The answer to a row that keeps nothing, told of its first word and what stands behind it."""
    if asked == "fits":
        place = first_bad(things[0], words_of(things[1]))
        return "yes" if place is None else f"no {place}"
    if asked == "within":
        return yes_or_grove(within(things[0], things[1]), "within")
    if asked == "safe":
        return yes_or_grove(safe(things[0], things[1], things[2]), "safe")
    if asked == "same":
        grove = parting(things[0], things[1])
        return "yes" if grove is None else "no " + shown(grove)
    if asked == "least":
        grove = least_of(things[0])
        return "none" if grove is None else "some " + shown(grove)
    if asked == "pipe":
        return piped(things[0], things[1], things[2], read_small(things[3]))
    if asked == "sorts":
        return str(sorts(things[0])[0])
    return shown(things[0])


def yes_or_grove(told, good):
    """`yes` where what is told begins with the good word, else `no` and the text of the grove that is told."""
    return "yes" if told[0] == good else "no " + shown(told[1])


def piped(changer, one, other, grove):
    """How a grove's words go through a pipe between two forms."""
    pipe = Pipe(changer, one, other)
    for place, word in enumerate(words_of(grove)):
        if not pipe.take(word):
            return f"stuck {place}"
    place = pipe.broken()
    if place is not None:
        return f"broken {place}"
    return " ".join([yes_or_no(good) for good in pipe.ends_well()])


def yes_or_no(good):
    """A truth as a word."""
    return "yes" if good else "no"
