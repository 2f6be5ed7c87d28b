"""Books: tuples of pairs (name, expression); how they are written and read."""

from formgrove.errors import NoBook, NoName, Ring, TwiceNamed
from formgrove.exprs import DEEPEST, Source, depth_of, parts_of, shown_expr

MOST_PAIRS = 8
MOST_SIGNS = 400


def shown(book):
    """The text of a book."""
    return "; ".join([name + " = " + shown_expr(expr) for name, expr in book])


def read(text):
    """The book that is written as the text; NoBook, TwiceNamed, NoName or Ring where it is refused."""
    book = read_pairs(text)
    refuse_doubles(book)
    refuse_unnamed(book)
    refuse_rings(book)
    return book


def read_pairs(text):
    """The book of a text, whatever its names are; NoBook where none is written so."""
    if len(text) > MOST_SIGNS:
        raise NoBook("too many signs")
    source = Source(text)
    pairs = [take_pair(source)]
    while source.skips("; "):
        pairs.append(take_pair(source))
    if not source.at_end() or shown(pairs) != text:
        raise NoBook("no book is written so")
    if len(pairs) > MOST_PAIRS:
        raise NoBook("too many pairs")
    if any([depth_of(expr) > DEEPEST for name, expr in pairs]):
        raise NoBook("too deep")
    return tuple(pairs)


def take_pair(source):
    """Read a name and its expression."""
    name = source.take_name()
    source.must_skip(" = ")
    return (name, source.take_expr(DEEPEST))


def refuse_doubles(book):
    """TwiceNamed where a name has two pairs."""
    seen = {}
    for name, expr in book:
        if name in seen:
            raise TwiceNamed(name)
        seen[name] = True


def refuse_unnamed(book):
    """NoName where a name without a pair is used."""
    pairs = dict(book)
    for name, expr in book:
        for used in names_in(expr):
            if used not in pairs:
                raise NoName(used)


def names_in(expr):
    """The names used in an expression, in the order of its text."""
    if expr[0] == "name":
        return [expr[1]]
    found = []
    for part in parts_of(expr):
        found.extend(names_in(part))
    return found


def names_outside(expr):
    """The names used in an expression outside of tags, in the order of its text."""
    if expr[0] == "name":
        return [expr[1]]
    if expr[0] == "tag":
        return []
    found = []
    for part in parts_of(expr):
        found.extend(names_outside(part))
    return found


def refuse_rings(book):
    """Ring where names, used outside of tags, go in a ring."""
    uses = dict([(name, names_outside(expr)) for name, expr in book])
    left = list(uses)
    going = ring_or_before(uses, left)
    while len(going) < len(left):
        left = going
        going = ring_or_before(uses, left)
    if left:
        raise Ring(ring_from(uses, left))


def ring_or_before(uses, names):
    """Those of the names that use one of them: a name that uses none is in no ring of theirs."""
    return [name for name in names if any([used in names for used in uses[name]])]


def ring_from(uses, names):
    """A ring of names, told of some names of which each uses one of them."""
    path = []
    name = names[0]
    while name not in path:
        path.append(name)
        name = [used for used in uses[name] if used in names][0]
    return path[path.index(name):]
