"""What books mean: where an expression leads in a row of trees."""

from formgrove.exprs import parts_of


def ends(book, expr, grove, at):
    """The rising list of the gaps to which an expression leads from a gap of the row that a grove is."""
    row = row_of(dict(book), inners_by_tag(book, expr), grove)
    reached = row.reach(expr, row.bits[at])
    return [gap for gap, bit in enumerate(row.bits) if reached & bit]


def meant(book, grove):
    """Whether a grove is one that a book means."""
    expr = book[0][1]
    return row_of(dict(book), inners_by_tag(book, expr), grove).is_as(expr)


def inners_by_tag(book, expr):
    """For each tag of the expressions of a book and of one more: what may be asked of a tree's inner row."""
    found = {}
    waiting = [expr]
    waiting.extend([told for name, told in book])
    while waiting:
        part = waiting.pop()
        waiting.extend(parts_of(part))
        if part[0] == "tag":
            found.setdefault(part[1], {})[part[2]] = True
    return found


def row_of(names, inners, grove):
    """The row that a grove is, told of the names of a book and of what may be asked of inner rows."""
    row = Row(names)
    for tag, within in grove:
        inside = row_of(names, inners, within)
        row.add_tree(tag, [inner for inner in inners.get(tag, {}) if inside.is_as(inner)])
    return row


class Row:
    """A row of trees, and what has been found of it.

    Many gaps at once are one whole number, the sum of their bits: a turn of many parts then needs one step
    for each part, and not one for each gap too.
    """

    def __init__(self, names):
        self.names = names
        self.bits = [1]
        self.trees = {}
        self.found = {}

    def add_tree(self, tag, inners):
        """Put a tree behind the others, told of the expressions that its inner row is as."""
        bit = self.bits[-1]
        self.bits.append(2 * bit)
        for inner in inners:
            self.trees[(tag, inner)] = self.trees.get((tag, inner), 0) | bit

    def is_as(self, expr):
        """Whether an expression leads from the first gap to the last one."""
        return self.reach(expr, self.bits[0]) & self.bits[-1] != 0

    def reach(self, expr, gaps):
        """The gaps to which an expression leads from some gaps."""
        sort = expr[0]
        if gaps == 0 or sort == "nil":
            return gaps
        if sort == "tag":
            return 2 * (gaps & self.trees.get((expr[1], expr[2]), 0))
        if sort == "turn":
            for part in expr[1]:
                gaps = self.reach(part, gaps)
            return gaps
        if sort == "or":
            reached = 0
            for part in expr[1]:
                reached = reached | self.reach(part, gaps)
            return reached
        if sort == "maybe":
            return gaps | self.reach(expr[1], gaps)
        if sort == "some":
            return self.reach_singly(("many", expr[1]), self.reach(expr[1], gaps))
        return self.reach_singly(expr, gaps)

    def reach_singly(self, expr, gaps):
        """What `reach` tells of a name or a many, which are looked for from each gap once."""
        found = self.found.setdefault(expr, {})
        if gaps not in found:
            reached = 0
            left = gaps
            while left:
                bit = left & -left
                if bit not in found:
                    found[bit] = self.reach_from(expr, bit)
                reached = reached | found[bit]
                # From where a many has led it leads to nothing that is new.
                left = left & ~reached if expr[0] == "many" else left ^ bit
            found[gaps] = reached
        return found[gaps]

    def reach_from(self, expr, bit):
        """The gaps to which a name or a many leads from one gap."""
        if expr[0] == "name":
            return self.reach(self.names[expr[1]], bit)
        reached = bit
        fresh = bit
        while fresh:
            fresh = self.reach(expr[1], fresh) & ~reached
            reached = reached | fresh
        return reached
