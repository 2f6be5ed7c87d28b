"""Groves written as texts, and read."""

from formgrove.errors import NoGrove
from formgrove.words import grove_of, is_tag, words_of


def shown(grove):
    """The text of a grove."""
    pieces = []
    ahead = ""
    for word in words_of(grove):
        pieces.append(piece_of(ahead, word))
        ahead = word
    return "".join(pieces)


def piece_of(ahead, word):
    """The signs by which a word shows, told of the word ahead of it ("" where there is none)."""
    if word == "/":
        return ")" if ahead == "/" else ""
    if ahead == "":
        return word
    return " " + word if ahead == "/" else "(" + word


def read(text):
    """The grove that is written as the text; NoGrove where none is."""
    reading = Reading()
    for place, sign in enumerate(text):
        if not reading.takes(sign):
            raise NoGrove(place)
    if text and not reading.may_stop():
        raise NoGrove(len(text))
    reading.end_leaf()
    return grove_of(reading.words)


class Reading:
    """How far a text has been read: its words, and the letters of a tag not yet among them."""

    def __init__(self):
        self.words = []
        self.letters = ""
        self.closed = False
        self.deep = 0

    def takes(self, sign):
        """Go on by a sign and tell True, or False where no grove's text goes on so."""
        if not self.closed and is_tag(self.letters + sign):
            self.letters = self.letters + sign
            return True
        if not self.at_tree_end():
            return False
        if sign == " ":
            self.end_leaf()
            self.closed = False
            return True
        if sign == "(":
            return self.goes_in()
        return sign == ")" and self.goes_out()

    def at_tree_end(self):
        """Whether a tree has been read that could end here."""
        return self.closed or self.letters != ""

    def may_stop(self):
        """Whether the signs read, if there are some, are a grove's text."""
        return self.at_tree_end() and self.deep == 0

    def end_leaf(self):
        """Put the tag that is being read, if there is one, among the words, with nothing within."""
        if self.letters != "":
            self.words.extend([self.letters, "/"])
            self.letters = ""

    def goes_in(self):
        """Begin what is within the tag; False right behind a `)`, where there is no tag."""
        if self.closed:
            return False
        self.words.append(self.letters)
        self.letters = ""
        self.deep += 1
        return True

    def goes_out(self):
        """End what is within a tag; False where none is begun."""
        if self.deep == 0:
            return False
        self.end_leaf()
        self.words.append("/")
        self.closed = True
        self.deep -= 1
        return True
