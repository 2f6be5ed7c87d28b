"""One form held within another, taken from it and told from it."""

from formgrove.measures import Kinds, Others
from formgrove.order import least_among
from formgrove.tables import chosen, table, unwanted


def within(one, other):
    """("within", table) where each grove that fits one fits other, else ("not", the least grove that doesn't)."""
    measure = Kinds(other)
    rows = table(one, measure)
    spared = unwanted(one, measure, rows)
    return ("not", least_among(spared)) if spared else ("within", rows)


def less(one, other):
    """The form with the groves of one that don't fit other."""
    return chosen(one, Others(other))


def parting(one, other):
    """The least grove that fits just one of two forms; None where they have the same groves."""
    rows = table(one, Kinds(other))
    turned = table(other, Kinds(one))
    return least_among(unwanted(one, Kinds(other), rows) + unwanted(other, Kinds(one), turned))
