"""Pipes: a reader, a stream and another reader, one behind the other."""

from formgrove.reader import Reader
from formgrove.stream import Stream


class Pipe:
    """Words that a reader of one form takes, changed as they come, and handed to a reader of another form."""

    def __init__(self, changer, before, behind):
        self.stream = Stream(changer)
        self.first = Reader(before)
        self.second = Reader(behind)
        self.told = []
        self.broken_at = None

    def take(self, word):
        """True where the word is taken; else False, and all stays as it was."""
        if not self.first.take(word):
            return False
        for come in self.stream.take(word):
            if self.broken_at is None and not self.second.take(come):
                self.broken_at = len(self.told)
            self.told.append(come)
        return True

    def came(self):
        """The list of all words that have come of the stream."""
        return list(self.told)

    def broken(self):
        """The number of the first word that has come and wasn't taken; None where there is none."""
        return self.broken_at

    def ends_well(self):
        """Whether the words taken are those of a grove that fits the form before, and those that have come those
        of one that fits the form behind."""
        return (self.first.ends_well(), self.broken_at is None and self.second.ends_well())
