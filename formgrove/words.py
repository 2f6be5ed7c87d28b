"""Groves and their lists of words.

Groves are walked without recursion, since words and texts may go deeper than calls safely can.
"""

from formgrove.errors import NoGrove

LONGEST_TAG = 8


def is_tag(text):
    """Whether a text is a tag: one to eight small letters."""
    return 1 <= len(text) <= LONGEST_TAG and all(["a" <= sign <= "z" for sign in text])


def words_of(grove):
    """The list of words of a grove."""
    words = []
    waiting = list(grove[::-1])
    while waiting:
        tree = waiting.pop()
        if tree == "/":
            words.append(tree)
        else:
            words.append(tree[0])
            waiting.append("/")
            waiting.extend(tree[1][::-1])
    return words


def grove_of(words):
    """The grove that has these words; NoGrove where none has."""
    tags = []
    rows = [[]]
    for place, word in enumerate(words):
        if is_tag(word):
            tags.append(word)
            rows.append([])
        elif word == "/" and tags:
            within = tuple(rows.pop())
            rows[-1].append((tags.pop(), within))
        else:
            raise NoGrove(place)
    if tags:
        raise NoGrove(len(words))
    return tuple(rows[0])


def size(grove):
    """How many tags a grove has."""
    return len(words_of(grove)) // 2


def depth(grove):
    """How many tags are within one another, at the most."""
    height = 0
    greatest = 0
    for word in words_of(grove):
        height += -1 if word == "/" else 1
        greatest = max(greatest, height)
    return greatest


def end_of(words, place):
    """The place of the `/` that ends the tag at a place of a grove's words."""
    return closings(words)[place]


def closings(words):
    """For the place of each tag of a grove's words, the place of the `/` that ends it."""
    ended_at = {}
    begun = []
    for place, word in enumerate(words):
        if word == "/":
            ended_at[begun.pop()] = place
        else:
            begun.append(place)
    return ended_at
