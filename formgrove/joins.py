"""Forms made of forms."""

from formgrove.errors import BadForm, TooMany
from formgrove.forms import MOST_KINDS, sorted_form
from formgrove.words import is_tag


def join(one, other):
    """The form with the groves of one or other."""
    many = one[0]
    starts = list(one[1]) + raised(other[1], many)
    ends = list(one[2]) + raised(other[2], many)
    return sorted_form(many + other[0], starts, ends, list(one[3]) + raised_rules(other[3], many, many))


def raised(kinds, by):
    """Kinds with a number added to each."""
    return [kind + by for kind in kinds]


def raised_rules(rules, by, inner_by):
    """Rules with a number added to each kind and rest, and one to each inner."""
    return [(kind + by, tag, inner + inner_by, rest + by) for kind, tag, inner, rest in rules]


def started_rules(form):
    """What comes behind the kind in the rules of a form's starts."""
    return [(tag, inner, rest) for kind, tag, inner, rest in form[3] if kind in form[1]]


def then(one, other):
    """The form with each grove of one followed by one of other, as one row."""
    many = one[0]
    ends = list(one[2]) + raised(other[2], 2 * many)
    rules = outer_rules(one) + raised_rules(other[3], 2 * many, 2 * many)
    for end in one[2]:
        for tag, inner, rest in started_rules(other):
            rules.append((many + end, tag, 2 * many + inner, 2 * many + rest))
    if any([start in other[2] for start in other[1]]):
        ends.extend(raised(one[2], many))
    return sorted_form(2 * many + other[0], raised(one[1], many), ends, rules)


def outer_rules(one):
    """A form's rules, and those of its kinds in the outermost row, raised by how many kinds there are."""
    return list(one[3]) + raised_rules(one[3], one[0], 0)


def again(one):
    """The form with any number of groves of one as one row, none too."""
    many = one[0]
    rules = outer_rules(one)
    for kind in [2 * many] + raised(one[2], many):
        rules.extend([(kind, tag, inner, many + rest) for tag, inner, rest in started_rules(one)])
    ends = list(one[2]) + raised(one[2], many) + [2 * many]
    return sorted_form(2 * many + 1, [2 * many], ends, rules)


def inside(tag, one):
    """The form with the groves of just one tree, with the tag, within which is a grove of one."""
    refuse_bad_tag(tag)
    many = one[0]
    rules = list(one[3]) + [(many, tag, start, many + 1) for start in one[1]]
    return sorted_form(many + 2, [many], list(one[2]) + [many + 1], rules)


def refuse_bad_tag(tag):
    """BadForm where a text is no tag."""
    if not is_tag(tag):
        raise BadForm(f"{tag!r} is no tag")


def common(one, other):
    """The form with the groves of both."""
    # Told ahead, since there may be far more pairs of rules than a form may have.
    if one[0] * other[0] > MOST_KINDS:
        raise TooMany("a form of too many kinds")
    rules = []
    for kind, tag, inner, rest in one[3]:
        for mate, word, mate_inner, mate_rest in other[3]:
            if tag == word:
                pairs = paired([kind, inner, rest], [mate, mate_inner, mate_rest], other[0])
                rules.append((pairs[0], tag, pairs[1], pairs[2]))
    return sorted_form(one[0] * other[0], all_paired(one[1], other[1], other[0]),
                       all_paired(one[2], other[2], other[0]), rules)


def paired(kinds, mates, many):
    """The kinds that stand for each kind and the mate at its place, where the other form has so many kinds."""
    return [kind * many + mate for kind, mate in zip(kinds, mates)]


def all_paired(kinds, mates, many):
    """The kinds that stand for each kind and each mate."""
    found = []
    for kind in kinds:
        found.extend([kind * many + mate for mate in mates])
    return found


def everything(tags):
    """The form with all groves of some tags."""
    for tag in tags:
        refuse_bad_tag(tag)
    return sorted_form(1, [0], [0], [(0, tag, 0, 0) for tag in tags])
