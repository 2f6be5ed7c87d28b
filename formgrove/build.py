"""The joints of expressions, and the forms of books."""

from formgrove.books import read
from formgrove.errors import TooMany
from formgrove.exprs import parts_of
from formgrove.forms import MOST_KINDS, sorted_form

MOST_PLACES = 64


def joints(book, expr):
    """The tuple (places, free, firsts, lasts, nexts) of an expression; TooMany where it has too many places."""
    joining = Joining(dict(book))
    if joining.count_places(expr) > MOST_PLACES:
        raise TooMany("an expression of too many places")
    told = joining.walk(expr)
    return (joining.places, told[0], list(told[1]), list(told[2]), sorted(joining.nexts))


class Joining:
    """The places of expressions as they are come to from the left, and which may stand right behind which."""

    def __init__(self, names):
        self.names = names
        self.counts = {}
        self.places = []
        self.nexts = {}

    def count_places(self, expr):
        """How many places an expression has; a name's are counted once, since walking them may take too long."""
        if expr[0] == "tag":
            return 1
        if expr[0] == "name":
            if expr[1] not in self.counts:
                self.counts[expr[1]] = self.count_places(self.names[expr[1]])
            return self.counts[expr[1]]
        return sum([self.count_places(part) for part in parts_of(expr)])

    def walk(self, expr):
        """The tuple (free, firsts, lasts) of an expression, whose places are put behind those that there are."""
        sort = expr[0]
        # Names without places may stand for more expressions than can be walked, too.
        if sort == "nil" or (sort == "name" and self.count_places(expr) == 0):
            return (True, [], [])
        if sort == "tag":
            self.places.append((expr[1], expr[2]))
            return (False, [len(self.places) - 1], [len(self.places) - 1])
        if sort == "name":
            return self.walk(self.names[expr[1]])
        if sort == "turn":
            return self.walk_turn(expr[1])
        if sort == "or":
            return self.walk_or(expr[1])
        told = self.walk(expr[1])
        if sort in ("many", "some"):
            self.link(told[2], told[1])
        return (told[0] or sort != "some", told[1], told[2])

    def walk_turn(self, parts):
        """What `walk` tells, of parts one behind the other."""
        free = True
        firsts = []
        lasts = []
        for part in parts:
            told = self.walk(part)
            self.link(lasts, told[1])
            firsts = firsts + told[1] if free else firsts
            lasts = lasts + told[2] if told[0] else told[2]
            free = free and told[0]
        return (free, firsts, lasts)

    def walk_or(self, parts):
        """What `walk` tells, of parts of which one is chosen."""
        free = False
        firsts = []
        lasts = []
        for part in parts:
            told = self.walk(part)
            free = free or told[0]
            firsts = firsts + told[1]
            lasts = lasts + told[2]
        return (free, firsts, lasts)

    def link(self, lasts, firsts):
        """Keep that each of the firsts may stand right behind each of the lasts."""
        for last in lasts:
            for first in firsts:
                self.nexts[(last, first)] = True


def form_of(book):
    """The form that has just the groves that a book means; TooMany where it would have too many kinds or rules."""
    counting = Joining(dict(book))
    many = 0
    begins = {}
    for row in rows_of(book):
        begins[row] = many
        many += 1 + counting.count_places(row)
    if many > MOST_KINDS:
        raise TooMany(f"a form of {many} kinds")
    finals = []
    rules = []
    for row in begins:
        told = joints(book, row)
        finals.extend(ends_of_row(begins[row], told))
        rules.extend(rules_of_row(begins, begins[row], told))
    return sorted_form(many, [begins[book[0][1]]], finals, rules)


def form_told(text):
    """The form of the book that is written as a text; refused as the book is, or as its form is."""
    return form_of(read(text))


def rows_of(book):
    """The rows of a book's form: expressions, the first pair's first, each once."""
    names = dict(book)
    found = {}
    waiting = [book[0][1]]
    while waiting:
        row = waiting.pop(0)
        if row not in found:
            found[row] = True
            waiting.extend(inners_outside(names, row, {}))
    return list(found)


def inners_outside(names, expr, seen):
    """The inners of the tags outside of tags, of names not yet seen too."""
    if expr[0] == "tag":
        return [expr[2]]
    if expr[0] == "name":
        if expr[1] in seen:
            return []
        seen[expr[1]] = True
        return inners_outside(names, names[expr[1]], seen)
    found = []
    for part in parts_of(expr):
        found.extend(inners_outside(names, part, seen))
    return found


def ends_of_row(begin, told):
    """The ends among a row's kind, `begin`, and its places' kinds behind it, told of its joints."""
    found = [begin] if told[1] else []
    found.extend([begin + 1 + place for place in told[3]])
    return found


def rules_of_row(begins, begin, told):
    """The rules from a row's kind, `begin`, and its places' kinds behind it, told of all rows' kinds and its joints."""
    steps = [(begin, place) for place in told[2]]
    steps.extend([(begin + 1 + ahead, place) for ahead, place in told[4]])
    rules = []
    for kind, place in steps:
        tag = told[0][place][0]
        inner = begins[told[0][place][1]]
        rules.append((kind, tag, inner, begin + 1 + place))
    return rules
