"""Expressions: tuples that tell what a row may be; how they are written and read."""

from formgrove.errors import NoBook
from formgrove.words import is_tag

NIL = ("nil",)
DEEPEST = 12
LONGEST_NAME = 8
MARKS = {"many": "*", "some": "+", "maybe": "?"}
# For each sort of expression with parts, the sorts that stand in braces as a part of it.
BRACED = {
    "turn": ("turn", "or"),
    "or": ("or",),
    "many": ("turn", "or", "many", "some", "maybe"),
    "some": ("turn", "or", "many", "some", "maybe"),
    "maybe": ("turn", "or", "many", "some", "maybe"),
}


def parts_of(expr):
    """The expressions right within one, from the left."""
    if expr[0] in ("nil", "name"):
        return ()
    if expr[0] == "tag":
        return (expr[2],)
    if expr[0] in ("turn", "or"):
        return expr[1]
    return (expr[1],)


def depth_of(expr):
    """How deep an expression is."""
    return 1 + max([depth_of(part) for part in parts_of(expr)], default=0)


def shown_expr(expr):
    """The text of an expression."""
    if expr == NIL:
        return "{}"
    if expr[0] == "name":
        return expr[1]
    if expr[0] == "tag":
        return expr[1] if expr[2] == NIL else expr[1] + "(" + shown_expr(expr[2]) + ")"
    texts = [shown_part(expr[0], part) for part in parts_of(expr)]
    if expr[0] == "turn":
        return " ".join(texts)
    if expr[0] == "or":
        return " | ".join(texts)
    return texts[0] + MARKS[expr[0]]


def shown_part(around, part):
    """The text of a part of an expression of the sort `around`, in braces where they belong."""
    text = shown_expr(part)
    return "{" + text + "}" if part[0] in BRACED[around] else text


class Source:
    """A text that is read from the left, and the place up to which it has been.

    Braces may stand here wherever they are paired: whether they belong there is told by writing again
    what has been read.
    """

    def __init__(self, text):
        self.text = text
        self.at = 0

    def sees(self, piece):
        """Whether the text goes on with a piece."""
        return self.text.startswith(piece, self.at)

    def skips(self, piece):
        """Go behind a piece and tell True where the text goes on with it; else tell False."""
        if not self.sees(piece):
            return False
        self.at += len(piece)
        return True

    def must_skip(self, piece):
        """Go behind a piece; NoBook where the text doesn't go on with it."""
        if not self.skips(piece):
            raise NoBook(f"{piece!r} is missing")

    def at_end(self):
        """Whether all has been read."""
        return self.at == len(self.text)

    def take_letters(self, first, last):
        """Go behind all signs from `first` to `last` that follow, and tell them."""
        begin = self.at
        while not self.at_end() and first <= self.text[self.at] <= last:
            self.at += 1
        return self.text[begin:self.at]

    def take_name(self):
        """Read a name."""
        name = self.take_letters("A", "Z")
        if not 1 <= len(name) <= LONGEST_NAME:
            raise NoBook(f"{name!r} is no name")
        return name

    def take_expr(self, levels):
        """Read an expression that may be so many levels deep."""
        # Texts of braces alone would else go deeper than calls safely can.
        if levels == 0:
            raise NoBook("too deep")
        parts = [self.take_turn(levels)]
        while self.skips(" | "):
            parts.append(self.take_turn(levels))
        return parts[0] if len(parts) == 1 else ("or", tuple(parts))

    def take_turn(self, levels):
        """Read an expression up to the next ` | ` outside of braces and tags."""
        parts = [self.take_marked(levels)]
        while not self.sees(" | ") and self.skips(" "):
            parts.append(self.take_marked(levels))
        return parts[0] if len(parts) == 1 else ("turn", tuple(parts))

    def take_marked(self, levels):
        """Read an expression up to the next blank outside of braces and tags."""
        part = self.take_single(levels)
        for sort, mark in MARKS.items():
            if self.skips(mark):
                return (sort, part)
        return part

    def take_single(self, levels):
        """Read a nil, an expression in braces, a tag or a name."""
        if self.skips("{}"):
            return NIL
        if self.skips("{"):
            part = self.take_expr(levels - 1)
            self.must_skip("}")
            return part
        tag = self.take_letters("a", "z")
        if tag == "":
            return ("name", self.take_name())
        if not is_tag(tag):
            raise NoBook(f"{tag!r} is no tag")
        return ("tag", tag, self.take_inner(levels))

    def take_inner(self, levels):
        """Read what stands in `( )` behind a tag; nil where nothing does."""
        if not self.skips("("):
            return NIL
        inner = self.take_expr(levels - 1)
        self.must_skip(")")
        return inner
