"""Measures: what gives each grove a value, and which values are wanted."""

from formgrove.runs import kinds_above


class Measure:
    """A measure; those that are asked stand under it, with these methods of their own."""

    def nothing(self):
        """The value of ()."""
        return ()

    def above(self, tag, inner, rest):
        """The value of a grove whose first tree has the tag, told of the values of what is within and behind it."""
        return ()

    def good(self, value):
        """Whether a value is wanted."""
        return False


class Kinds(Measure):
    """The rising tuple of the kinds of a form of which a grove is; wanted is one with a start."""

    def __init__(self, form):
        self.starts = form[1]
        self.finals = form[2]
        self.by_tag = {}
        for rule in form[3]:
            self.by_tag.setdefault(rule[1], []).append(rule)

    def nothing(self):
        """The value of ()."""
        return self.finals

    def above(self, tag, inner, rest):
        """The value of a grove whose first tree has the tag, told of the values of what is within and behind it."""
        within = dict([(kind, True) for kind in inner])
        others = dict([(kind, True) for kind in rest])
        return tuple(sorted(kinds_above(self.by_tag.get(tag, []), within, others)))

    def good(self, value):
        """Whether a value is wanted."""
        return any([start in value for start in self.starts])


class Others(Kinds):
    """The same as Kinds but for what is wanted: a value without a start."""

    def good(self, value):
        """Whether a value is wanted."""
        return not any([start in value for start in self.starts])
