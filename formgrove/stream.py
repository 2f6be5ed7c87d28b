"""Streams: words that are changed as they come."""

from formgrove.changers import all_parts, parts_by_rule, parts_for
from formgrove.errors import NoGrove, NotStraight
from formgrove.words import is_tag


def straight(changer):
    """Whether the parts of each rule of a changer have kids at most once, at all depths together."""
    return all([len(kids_in(parts)) <= 1 for mode, tag, parts in changer[1]])


def kids_in(parts):
    """The kids among parts, at any depth."""
    return [part for part in all_parts(parts) if part[0] == "kids"]


def words_of_parts(parts):
    """The words of parts; kids stand among them as the part that they are."""
    words = []
    for part in parts:
        if part[0] == "kids":
            words.append(part)
        else:
            words.extend([part[1]] + words_of_parts(part[2]) + ["/"])
    return words


class Stream:
    """The words that come of those taken up to now, by a straight changer."""

    def __init__(self, changer):
        if not straight(changer):
            raise NotStraight("a rule uses what is within its tag more than once")
        self.known = parts_by_rule(changer)
        self.taken = 0
        # For each open tag the mode of what is within it, None where nothing comes of that, and the words that
        # come at its end.
        self.begun = []

    def take(self, word):
        """The list of the words that come of a word; NoGrove where no grove goes on with it."""
        if word == "/" and self.begun:
            self.taken += 1
            return self.begun.pop()[1]
        if not is_tag(word):
            raise NoGrove(self.taken)
        self.taken += 1
        return self.take_begin(self.begun[-1][0] if self.begun else 0, word)

    def take_begin(self, mode, tag):
        """The list of the words that come of a tag in a mode."""
        if mode is None:
            self.begun.append((None, []))
            return []
        parts = parts_for(self.known, mode, tag)
        words = words_of_parts(parts)
        kids = kids_in(parts)
        if not kids:
            self.begun.append((None, []))
            return words
        at = words.index(kids[0])
        self.begun.append((kids[0][1], words[at + 1:]))
        return words[:at]

    def height(self):
        """How many tags are open."""
        return len(self.begun)

    def owed(self):
        """The list of the words that would come if all open tags were ended now."""
        words = []
        for mode, behind in self.begun[::-1]:
            words.extend(behind)
        return words
