"""One form held within another, taken from it and told from it."""

from formgrove.measures import Kinds, Others
from formgrove.order import least_among
from formgrove.tables import chosen, table


def within(one, other):
    """("within", table) where each grove that fits one fits other, else ("not", the least grove that doesn't)."""
    rows = table(one, Kinds(other))
    spared = left_out(one, other, rows)
    return ("not", least_among(spared)) if spared else ("within", rows)


def left_out(one, other, rows):
    """The groves of the table of one and other's Kinds that fit one and not other."""
    measure = Kinds(other)
    return [grove for kind, value, grove in rows if kind in one[1] and not measure.good(value)]


def less(one, other):
    """The form with the groves of one that don't fit other."""
    return chosen(one, Others(other))


def parting(one, other):
    """The least grove that fits just one of two forms; None where they have the same groves."""
    rows = table(one, Kinds(other))
    turned = table(other, Kinds(one))
    return least_among(left_out(one, other, rows) + left_out(other, one, turned))
