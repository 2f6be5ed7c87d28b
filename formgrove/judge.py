"""The first bad place of a list of words."""

from formgrove.reader import Reader


def first_bad(form, words):
    """The number of the first word with which no grove that fits goes on so, the count of the words where only
    their end is bad, None where they are the words of a grove that fits."""
    reader = Reader(form)
    for place, word in enumerate(words):
        if not reader.take(word):
            return place
    return None if reader.ends_well() else len(words)
