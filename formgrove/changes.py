"""Changes of a grove: what they make of it, their price, and how far groves are from one another."""

from formgrove.errors import NoChange
from formgrove.words import closings, grove_of, is_tag, size, words_of


def done(grove, changes):
    """The grove that changes make of a grove; NoChange where they are none of it."""
    words = words_of(grove)
    ended_at = closings(words)
    refuse_bad_changes(words, changes)
    made = []
    at = 0
    for change in changes:
        made.extend(words[at:change[1]])
        at = behind_change(ended_at, change)
        if change[0] == "put":
            made.extend(words_of((change[2],)))
        elif change[0] == "name":
            made.append(change[2])
    return grove_of(made + words[at:])


def refuse_bad_changes(words, changes):
    """NoChange where a list of tuples isn't one of changes of the grove that has the words."""
    ended_at = closings(words)
    earliest = 0
    for change in changes:
        if not earliest <= change[1] <= len(words):
            raise NoChange("a place that is none, out of order, taken, or in a tree that goes")
        if change[0] != "put" and change[1] not in ended_at:
            raise NoChange("no tag is there")
        if change[0] == "name" and not is_tag(change[2]):
            tag = change[2]
            raise NoChange(f"{tag!r} is no tag")
        earliest = behind_change(ended_at, change)


def behind_change(ended_at, change):
    """The first place that is left behind a change: nothing else is done to words ahead of it."""
    if change[0] == "put":
        return change[1]
    return 1 + (change[1] if change[0] == "name" else ended_at[change[1]])


def price(grove, changes):
    """The price of changes of a grove; NoChange where they are none of it."""
    words = words_of(grove)
    ended_at = closings(words)
    refuse_bad_changes(words, changes)
    return sum([price_of(ended_at, change) for change in changes])


def price_of(ended_at, change):
    """The price of one change."""
    if change[0] == "name":
        return 1
    return size((change[2],)) if change[0] == "put" else tree_size(ended_at, change[1])


def tree_size(ended_at, place):
    """How many tags the tree has whose tag is at a place."""
    return (ended_at[place] + 1 - place) // 2


def distance(one, other):
    """The least price of changes that make the other grove of the one."""
    words = words_of(one)
    ended_at = closings(words)
    mates = words_of(other)
    mates_ended_at = closings(mates)
    # For each place of the one grove and each of the other, how far the rests are that begin there.
    told = [[0] * (len(mates) + 1) for place in range(len(words) + 1)]
    for place in range(len(words), -1, -1):
        for mate in range(len(mates), -1, -1):
            prices = []
            if place in ended_at:
                prices.append(tree_size(ended_at, place) + told[ended_at[place] + 1][mate])
            if mate in mates_ended_at:
                prices.append(tree_size(mates_ended_at, mate) + told[place][mates_ended_at[mate] + 1])
            if place in ended_at and mate in mates_ended_at:
                kept = told[place + 1][mate + 1] + told[ended_at[place] + 1][mates_ended_at[mate] + 1]
                prices.append(kept + (0 if words[place] == mates[mate] else 1))
            told[place][mate] = min(prices, default=0)
    return told[0][0]
