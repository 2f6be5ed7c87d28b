"""The nearest grove that fits a form, and the changes that make it."""

from formgrove.changes import tree_size
from formgrove.errors import NoneFits, TooBig
from formgrove.least import count_above, fewest, is_small, least
from formgrove.order import rank_of_words
from formgrove.prices import keep_price, paper
from formgrove.words import closings, grove_of, words_of


def nearest(form, grove):
    """The tuple (price, grove, changes) of the nearest grove that fits; NoneFits or TooBig where it is refused."""
    counts = fewest(form)
    starts = [start for start in form[1] if counts[start] is not None]
    if not starts:
        raise NoneFits("no grove fits")
    if any([count is not None and not is_small(count) for count in counts]):
        raise TooBig("a kind of too many tags")
    mending = Mending(form, grove)
    mending.mend()
    start = min(starts, key=lambda kind: (mending.prices[0][kind], rank_of_words(mending.made[0][kind])))
    return (mending.prices[0][start], grove_of(mending.made[0][start]), mending.changes_from(start))


class Mending:
    """For each place of a grove's words and each live kind the words of the grove that the rest there becomes: of
    those of the kind at the least price the least one; and by which step.

    A step is a tuple (what is done to the first tree, tag, inner, rest); behind it one goes on at the rest. Of a step
    of the least price each part has the least price of its own, and the least grove has the least parts.
    """

    def __init__(self, form, grove):
        self.counts = fewest(form)
        self.smallest = least(form)
        self.by_kind = {}
        for rule in form[3]:
            if self.counts[rule[2]] is not None and self.counts[rule[3]] is not None:
                self.by_kind.setdefault(rule[0], []).append(rule)
        self.words = words_of(grove)
        self.ended_at = closings(self.words)
        self.prices = paper(form, grove)
        put = [None if tree is None else words_of(tree) for tree in self.smallest]
        self.put = put
        self.made = [put] * (len(self.words) + 1)
        self.steps = {}

    def mend(self):
        """Find the words and the step for each place and live kind."""
        for place in sorted(self.ended_at, reverse=True):
            prices = self.prices[place]
            self.made[place] = [None] * len(prices)
            live = [kind for kind in range(len(prices)) if prices[kind] is not None]
            # A tree that is put has its price, so the rest behind it has a lower one.
            for kind in sorted(live, key=lambda each: prices[each]):
                found = [(self.words_by(place, step), step) for step in self.steps_at(place, kind)]
                best = min(found, key=lambda each: rank_of_words(each[0]))
                self.made[place][kind] = best[0]
                self.steps[(place, kind)] = best[1]

    def steps_at(self, place, kind):
        """All steps of the least price at the place of a tag."""
        price = self.prices[place][kind]
        within = self.prices[place + 1]
        others = self.prices[self.ended_at[place] + 1]
        found = []
        if tree_size(self.ended_at, place) + others[kind] == price:
            found.append(("cut", None, None, kind))
        for above, tag, inner, rest in self.by_kind.get(kind, []):
            if count_above(self.counts[inner], self.prices[place][rest]) == price:
                found.append(("put", tag, inner, rest))
            if keep_price(self.words[place], tag) + within[inner] + others[rest] == price:
                found.append(("keep", tag, inner, rest))
        return found

    def words_by(self, place, step):
        """The words of the grove that the rest at a place becomes by a step."""
        others = self.made[self.ended_at[place] + 1]
        if step[0] == "cut":
            return others[step[3]]
        if step[0] == "put":
            return [step[1]] + self.put[step[2]] + ["/"] + self.made[place][step[3]]
        return [step[1]] + self.made[place + 1][step[2]] + ["/"] + others[step[3]]

    def changes_from(self, start):
        """The changes that make of the grove the one that is found for a start."""
        found = []
        waiting = [(0, start)]
        while waiting:
            pair = waiting.pop()
            if pair in self.steps:
                waiting.extend(self.take_step(found, pair[0], self.steps[pair]))
            else:
                found.extend([("put", pair[0], tree) for tree in self.smallest[pair[1]]])
        return found

    def take_step(self, found, place, step):
        """Put the change of a step, if it is one, behind those found; and tell the pairs (place, kind) at which one
        goes on, the last one first."""
        behind = (self.ended_at[place] + 1, step[3])
        if step[0] == "cut":
            found.append(("cut", place))
            return [behind]
        if step[0] == "put":
            found.append(("put", place, (step[1], self.smallest[step[2]])))
            return [(place, step[3])]
        if step[1] != self.words[place]:
            found.append(("name", place, step[1]))
        return [behind, (place + 1, step[2])]
