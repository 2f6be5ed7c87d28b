"""Prices: how little it costs to make a grove of each kind of a form of the rests of a grove."""

from formgrove.changes import tree_size
from formgrove.least import fewest, lower
from formgrove.words import closings, words_of


def paper(form, grove):
    """For each place of a grove's words and the one behind the last: a list with the least price of changes that
    make a grove of each kind of the rest that begins there, None where the kind isn't live."""
    words = words_of(grove)
    ended_at = closings(words)
    puts = fewest(form)
    told = [list(puts) for place in range(len(words) + 1)]
    alive = [rule for rule in form[3] if puts[rule[2]] is not None and puts[rule[3]] is not None]
    for place in sorted(ended_at, reverse=True):
        others = told[ended_at[place] + 1]
        prices = prices_of_cut(tree_size(ended_at, place), others)
        for kind, tag, inner, rest in alive:
            kept = keep_price(words[place], tag) + told[place + 1][inner] + others[rest]
            prices[kind] = min(kept, prices[kind])
        lower(alive, puts, prices)
        told[place] = prices
    return told


def prices_of_cut(tags, others):
    """The prices where a tree of so many tags goes, told of those of the rest behind it."""
    return [None if price is None else tags + price for price in others]


def keep_price(word, tag):
    """The price of a tag that stays, or is named."""
    return 0 if word == tag else 1
