"""Effects: from which kinds of a form to which ones that leads what a changer makes of a grove."""

from formgrove.changers import come_of_parts, parts_by_rule, parts_for
from formgrove.measures import Measure


class Leads:
    """The sense in which of a row there comes, for each kind of a form, a dict with the kinds to which it leads."""

    def __init__(self, form):
        self.many = form[0]
        self.final = dict([(end, True) for end in form[2]])
        self.by_tag = {}
        for rule in form[3]:
            self.by_tag.setdefault(rule[1], []).append(rule)

    def nothing(self):
        """The row without trees."""
        return [{kind: True} for kind in range(self.many)]

    def tree(self, tag, within):
        """A row of one tree."""
        ended = [any([kind in self.final for kind in kinds]) for kinds in within]
        come = [{} for kind in range(self.many)]
        for kind, word, inner, rest in self.by_tag.get(tag, []):
            if ended[inner]:
                come[kind][rest] = True
        return come

    def beside(self, one, other):
        """Two rows, one behind the other."""
        come = []
        for middles in one:
            kinds = {}
            for middle in middles:
                kinds.update(other[middle])
            come.append(kinds)
        return come


class Effects(Measure):
    """For each mode of a changer, the sorted tuple of the pairs of kinds of a form from the first of which to the
    second that leads what comes of a grove; wanted is one with a start and an end in mode 0."""

    def __init__(self, changer, form):
        self.modes = changer[0]
        self.known = parts_by_rule(changer)
        self.sense = Leads(form)
        self.starts = form[1]
        self.finals = form[2]
        # What comes of a first tree in each mode, by its tag and the value of what is within; asked for many rests.
        self.come = {}

    def nothing(self):
        """The value of ()."""
        return (pairs_of(self.sense.nothing()),) * self.modes

    def above(self, tag, inner, rest):
        """The value of a grove whose first tree has the tag, told of the values of what is within and behind it."""
        if (tag, inner) not in self.come:
            self.come[(tag, inner)] = self.come_of_tree(tag, inner)
        value = []
        for first, pairs in zip(self.come[(tag, inner)], rest):
            value.append(pairs_of(self.sense.beside(first, kinds_by_first(self.sense.many, pairs))))
        return tuple(value)

    def come_of_tree(self, tag, inner):
        """For each mode, where that leads which comes of a tree, told of its tag and the value of what is within."""
        kids = [kinds_by_first(self.sense.many, pairs) for pairs in inner]
        return [come_of_parts(parts_for(self.known, mode, tag), kids, self.sense) for mode in range(self.modes)]

    def good(self, value):
        """Whether a value is wanted."""
        return any([first in self.starts and last in self.finals for first, last in value[0]])


def pairs_of(leads):
    """The sorted tuple of the pairs of kinds, told of the kinds to which each leads."""
    pairs = []
    for first, kinds in enumerate(leads):
        pairs.extend([(first, last) for last in sorted(kinds)])
    return tuple(pairs)


def kinds_by_first(many, pairs):
    """For each of so many kinds a dict with the kinds that are paired with it."""
    leads = [{} for kind in range(many)]
    for first, last in pairs:
        leads[first][last] = True
    return leads
