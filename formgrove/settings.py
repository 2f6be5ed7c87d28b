"""Settings that tell sorts apart."""

from formgrove.sorts import firsts
from formgrove.words import words_of


def parted(known, one, other):
    """A setting (ahead, behind) that makes of the groves of just one of two sorts groves that fit, told of what
    sorts tells."""
    search = Search(known)
    search.meet((one, other), [], [])
    pair = search.waiting.pop(0)
    while (pair[0] in known[2]) == (pair[1] in known[2]):
        search.go_round(pair)
        pair = search.waiting.pop(0)
    return search.settings[pair]


class Search:
    """Pairs of sorts to which two sorts lead, with a setting for each; None stands for all that aren't live."""

    def __init__(self, known):
        self.leads = {}
        for tag, inner, rest, sort in known[3]:
            self.leads[(tag, inner, rest)] = sort
        self.tags = sorted(set([step[0] for step in known[3]]))
        self.rows = [words_of(grove) for grove in firsts(known)]
        self.settings = {}
        self.waiting = []

    def meet(self, pair, ahead, behind):
        """Keep a pair of sorts and the setting that leads to it, if it is new and the two aren't alike."""
        if pair[0] != pair[1] and pair not in self.settings:
            self.settings[pair] = (ahead, behind)
            self.waiting.append(pair)

    def go_round(self, pair):
        """Meet all pairs to which a pair leads by one tag, which stands ahead of it or round it."""
        ahead = self.settings[pair][0]
        behind = self.settings[pair][1]
        for tag in self.tags:
            for sort, row in enumerate(self.rows):
                beside = [self.leads.get((tag, sort, each)) for each in pair]
                self.meet((beside[0], beside[1]), [tag] + row + ["/"] + ahead, behind)
                around = [self.leads.get((tag, each, sort)) for each in pair]
                self.meet((around[0], around[1]), [tag] + ahead, behind + ["/"] + row)
