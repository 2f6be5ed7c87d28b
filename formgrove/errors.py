"""The refusals: one class each, all straight under GroveError."""


class GroveError(ValueError):
    """Any refusal."""


class NoGrove(GroveError):
    """Words or signs that are no grove's; `place` tells from where on."""

    def __init__(self, place):
        GroveError.__init__(self, f"no grove goes on so at place {place}")
        self.place = place


class BadForm(GroveError):
    """Kinds or tags of which no form can be made."""


class TooMany(GroveError):
    """More things than there may be."""


class TooBig(GroveError):
    """A grove, or words, greater than may be told."""


class NoneFits(GroveError):
    """A grove that fits is asked for, and there is none."""


class NoBook(GroveError):
    """A text that no book is written as."""


class TwiceNamed(GroveError):
    """A book with two pairs of one name."""

    def __init__(self, name):
        GroveError.__init__(self, f"{name} has two pairs")
        self.name = name


class NoName(GroveError):
    """A name that is used and that nothing stands for."""

    def __init__(self, name):
        GroveError.__init__(self, f"nothing is named {name}")
        self.name = name


class Ring(GroveError):
    """Names of a book of which each stands for the next one, and the last for the first."""

    def __init__(self, names):
        GroveError.__init__(self, f"these names go in a ring: {names!r}")
        self.names = list(names)


class BadChanger(GroveError):
    """Modes, tags or rules of which no changer can be made."""


class NoRecipe(GroveError):
    """A text that no changer is written as."""


class NotStraight(GroveError):
    """A changer that cannot change words as they come."""


class NoChange(GroveError):
    """Tuples that are no changes of the grove."""


class NoRow(GroveError):
    """A row that is none of the desk's."""
