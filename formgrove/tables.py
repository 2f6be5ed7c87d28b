"""Tables: for each kind and each value that a grove of it has, the least such grove."""

from formgrove.errors import TooBig, TooMany
from formgrove.forms import sorted_form
from formgrove.least import MOST_TAGS
from formgrove.order import rank_of_words
from formgrove.words import grove_of

MOST_TUPLES = 64
MOST_STEPS = 4000


def table(form, measure):
    """The sorted list of tuples (kind, value, grove) of a form and a measure; TooMany or TooBig where it is refused."""
    words = grown(form, measure).words
    return [(kind, value, grove_of(words[(kind, value)])) for kind, value in sorted(words)]


def grown(form, measure):
    """A Growth that has all pairs (kind, value) of a form and a measure; refused where their table is."""
    growth = Growth(form, measure)
    while growth.waiting:
        growth.settle(min(growth.waiting, key=lambda pair: rank_of_words(growth.waiting[pair])))
    if any([pair not in growth.words for pair in growth.beyond]):
        raise TooBig("a least grove of too many tags")
    return growth


class Growth:
    """The pairs (kind, value) of a form and a measure, found in the order of their least groves.

    What is within and behind a first tree comes before the whole, so a pair that comes first among those that wait
    has its least grove.
    """

    def __init__(self, form, measure):
        self.rules = form[3]
        self.measure = measure
        # The words of the least grove of each pair that is found.
        self.words = {}
        self.at_kind = {}
        # Tuples (pair, tag, pair within, pair behind).
        self.steps = []
        # The first words come to for each pair that isn't found yet.
        nothing = measure.nothing()
        self.waiting = dict([((end, nothing), []) for end in form[2]])
        # Pairs to which a grove of too many tags leads.
        self.beyond = {}

    def settle(self, pair):
        """Find a pair that waits, and make all steps with it and those found up to then."""
        if len(self.words) == MOST_TUPLES:
            raise TooMany("a table of too many tuples")
        self.words[pair] = self.waiting.pop(pair)
        for rule in self.rules:
            if rule[2] == pair[0]:
                for behind in self.at_kind.get(rule[3], []):
                    self.step(rule, pair, behind)
            if rule[3] == pair[0]:
                for within in self.at_kind.get(rule[2], []):
                    self.step(rule, within, pair)
            if rule[2] == pair[0] and rule[3] == pair[0]:
                self.step(rule, pair, pair)
        self.at_kind.setdefault(pair[0], []).append(pair)

    def step(self, rule, within, behind):
        """Make a step by a rule with two pairs that are found, and keep where it leads."""
        if len(self.steps) == MOST_STEPS:
            raise TooMany("a table of too many steps")
        pair = (rule[0], self.measure.above(rule[1], within[1], behind[1]))
        self.steps.append((pair, rule[1], within, behind))
        if pair in self.words:
            return
        if 2 + len(self.words[within]) + len(self.words[behind]) > 2 * MOST_TAGS:
            self.beyond[pair] = True
        else:
            words = [rule[1]] + self.words[within] + ["/"] + self.words[behind]
            self.waiting[pair] = min([words, self.waiting.get(pair, words)], key=rank_of_words)


def holds(form, measure, rows):
    """Whether a list of tuples that begin with (kind, value) is closed for a form and a measure."""
    pairs = {}
    at_kind = {}
    for row in rows:
        if (row[0], row[1]) not in pairs:
            pairs[(row[0], row[1])] = True
            at_kind.setdefault(row[0], []).append(row[1])
    nothing = measure.nothing()
    if any([(end, nothing) not in pairs for end in form[2]]):
        return False
    for kind, tag, inner, rest in form[3]:
        for within in at_kind.get(inner, []):
            values = [measure.above(tag, within, behind) for behind in at_kind.get(rest, [])]
            if any([(kind, value) not in pairs for value in values]):
                return False
    return True


def unwanted(form, measure, rows):
    """The groves of the table of a form and a measure that fit the form and whose value isn't wanted."""
    return [grove for kind, value, grove in rows if kind in form[1] and not measure.good(value)]


def chosen(form, measure):
    """The form with those of a form's groves whose value is wanted; refused where the table is, TooMany as a form."""
    growth = grown(form, measure)
    pairs = sorted(growth.words)
    numbers = dict([(pair, number) for number, pair in enumerate(pairs)])
    starts = [numbers[pair] for pair in pairs if pair[0] in form[1] and measure.good(pair[1])]
    nothing = measure.nothing()
    ends = [numbers[pair] for pair in pairs if pair[0] in form[2] and pair[1] == nothing]
    rules = [(numbers[pair], tag, numbers[within], numbers[behind]) for pair, tag, within, behind in growth.steps]
    return sorted_form(len(pairs), starts, ends, rules)
