"""Sorts: which groves a form never tells apart, whatever stands round them."""

from formgrove.forms import trimmed
from formgrove.joins import everything
from formgrove.least import least
from formgrove.measures import Kinds
from formgrove.runs import kinds_of
from formgrove.tables import grown


def sorts(form):
    """The tuple (many, nothing, good, steps) of a form's live sorts; refused as the table of its values is."""
    trim = trimmed(form)
    measure = Kinds(trim)
    growth = grown(everything([rule[1] for rule in trim[3]]), measure)
    # In the order of their least groves, since they were found in it.
    values = [value for kind, value in growth.words]
    steps = [(pair[1], tag, inner[1], rest[1]) for pair, tag, inner, rest in growth.steps]
    numbers = live_numbers(values, blocks_of(values, steps, measure))
    many = len(set([numbers[value] for value in numbers]))
    good = sorted(set([numbers[value] for value in numbers if measure.good(value)]))
    return (many, numbers.get(measure.nothing()), tuple(good), tuple(live_steps(numbers, steps)))


def live_steps(numbers, steps):
    """The sorted list of tuples (tag, inner, rest, sort), told of the numbers of the values of live sorts."""
    found = []
    for value, tag, inner, rest in steps:
        if value in numbers:
            found.append((tag, numbers[inner], numbers[rest], numbers[value]))
    return sorted(set(found))


def blocks_of(values, steps, measure):
    """For each value what it has in common with just those of the same sort."""
    settings = settings_of(values, steps)
    blocks = dict([(value, measure.good(value)) for value in values])
    count = 0
    while len(set([blocks[value] for value in values])) > count:
        count = len(set([blocks[value] for value in values]))
        blocks = refined(values, settings, blocks)
    return blocks


def settings_of(values, steps):
    """For each value the list of the values to which steps with it lead, all lists in the same order."""
    found = dict([(value, []) for value in values])
    for value, tag, inner, rest in steps:
        found[inner].append((tag, 0, rest, value))
        found[rest].append((tag, 1, inner, value))
    for value in values:
        found[value] = [row[3] for row in sorted(found[value])]
    return found


def refined(values, settings, blocks):
    """Blocks of values whose blocks are alike, and those of what steps with them lead to; as whole numbers."""
    numbers = {}
    found = {}
    for value in values:
        mark = (blocks[value], tuple([blocks[other] for other in settings[value]]))
        found[value] = numbers.setdefault(mark, len(numbers))
    return found


def live_numbers(values, blocks):
    """For each value of a live sort the number of its sort, told of the values in the order of their least groves."""
    numbers = {}
    found = {}
    for value in values:
        # All kinds of a trimmed form are live and come to, so only groves of none of them are of no live sort.
        if value != ():
            found[value] = numbers.setdefault(blocks[value], len(numbers))
    return found


def equal(one, other):
    """Whether the sorts of two forms are equal, so that they have the same groves."""
    told = sorts(one)
    return told == sorts(other)


def as_form(known):
    """What sorts tells as a form whose kinds are the live sorts."""
    ends = () if known[1] is None else (known[1],)
    return (known[0], known[2], ends, tuple([(sort, tag, inner, rest) for tag, inner, rest, sort in known[3]]))


def sort_of(known, grove):
    """The number of a grove's sort, told of what sorts tells; None where it isn't live."""
    found = kinds_of(as_form(known), grove)
    return found[0] if found else None


def firsts(known):
    """The list of the least groves of the sorts, told of what sorts tells."""
    return least(as_form(known))
