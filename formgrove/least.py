"""How few tags a grove of a kind has, and the least groves."""

from formgrove.errors import TooBig
from formgrove.order import least_among

MOST_TAGS = 300


def fewest(form):
    """A list with the least number of tags that a grove of each kind has, None where the kind isn't live."""
    counts = [None] * form[0]
    for end in form[2]:
        counts[end] = 0
    lower(form[3], counts, counts)
    return counts


def lower(rules, inners, counts):
    """Lower counts, one for each kind, until no rule tells fewer: one, its inner's among the inners, its rest's."""
    fallen = True
    while fallen:
        fallen = False
        for kind, tag, inner, rest in rules:
            count = count_above(inners[inner], counts[rest])
            if count is not None and (counts[kind] is None or count < counts[kind]):
                counts[kind] = count
                fallen = True


def count_above(inner, rest):
    """How many tags there are with one more above the inner ones; None where one count is None."""
    if inner is None or rest is None:
        return None
    return 1 + inner + rest


def is_small(count):
    """Whether a grove of so many tags may be told."""
    return count is not None and count <= MOST_TAGS


def least(form):
    """A list with the least grove of each kind, None where it has none of at most 300 tags."""
    return least_groves(form, fewest(form))


def least_groves(form, counts):
    """What `least` tells, told of the fewest tags of each kind."""
    groves = [None] * form[0]
    small = [kind for kind in range(form[0]) if is_small(counts[kind])]
    # What is within and behind the first tree has fewer tags, so it is there when it is needed.
    for kind in sorted(small, key=lambda each: counts[each]):
        groves[kind] = () if counts[kind] == 0 else least_by_rules(form, kind, counts, groves)
    return groves


def least_by_rules(form, kind, counts, groves):
    """The least grove of a kind that is no end, told of those of the kinds with fewer tags."""
    found = []
    for above, tag, inner, rest in form[3]:
        if above == kind and count_above(counts[inner], counts[rest]) == counts[kind]:
            found.append(((tag, groves[inner]),) + groves[rest])
    return least_among(found)


def least_of(form):
    """The least grove that fits, None where none does; TooBig where it has more than 300 tags."""
    counts = fewest(form)
    starts = [start for start in form[1] if counts[start] is not None]
    small = [start for start in starts if is_small(counts[start])]
    if starts and not small:
        raise TooBig("the least grove that fits has too many tags")
    groves = least_groves(form, counts)
    return least_among([groves[start] for start in small])
