"""Whether a changer makes wanted groves of wanted ones."""

from formgrove.effects import Effects
from formgrove.order import least_among
from formgrove.tables import chosen, table, unwanted


def safe(changer, one, other):
    """("safe", table) where each grove that fits one becomes one that fits other, else ("unsafe", the least grove
    that doesn't)."""
    measure = Effects(changer, other)
    rows = table(one, measure)
    spoiled = unwanted(one, measure, rows)
    return ("unsafe", least_among(spoiled)) if spoiled else ("safe", rows)


def asked_back(changer, one, other):
    """The form with those groves of one that become groves that fit other."""
    return chosen(one, Effects(changer, other))
