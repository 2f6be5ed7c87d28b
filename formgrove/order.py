"""Which grove comes before another."""

from formgrove.words import words_of


def rank(grove):
    """What puts groves in order."""
    return rank_of_words(words_of(grove))


def rank_of_words(words):
    """What puts lists of words in order: fewer words first, of as many the first as lists compare."""
    return (len(words), words)


def before(one, other):
    """Whether the one grove comes before the other; False of alike ones."""
    return rank(one) < rank(other)


def least_among(groves):
    """The grove of a list that comes before all others of it, None of []."""
    return min(groves, key=rank, default=None)
