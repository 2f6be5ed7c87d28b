"""Forms: tuples (many, starts, ends, rules) that tell which groves are wanted."""

from formgrove.errors import BadForm, TooMany
from formgrove.words import is_tag

MOST_KINDS = 64
MOST_RULES = 400


def form(many, starts, ends, rules):
    """A form made of whole numbers and lists in any order; BadForm or TooMany where there can't be one."""
    refuse_bad_kinds(many, starts)
    refuse_bad_kinds(many, ends)
    for kind, tag, inner, rest in rules:
        refuse_bad_kinds(many, [kind, inner, rest])
        if not is_tag(tag):
            raise BadForm(f"{tag!r} is no tag")
    return sorted_form(many, starts, ends, rules)


def refuse_bad_kinds(many, kinds):
    """BadForm where `many` is below 0, or one of the numbers is no kind."""
    if many < 0:
        raise BadForm(f"there can't be {many} kinds")
    for kind in kinds:
        if not 0 <= kind < many:
            raise BadForm(f"{kind} is no kind of {many}")


def sorted_form(many, starts, ends, rules):
    """A form of kinds and tags that are known to be good; TooMany where it would have too many."""
    unlike = sorted(set([(kind, tag, inner, rest) for kind, tag, inner, rest in rules]))
    if many > MOST_KINDS:
        raise TooMany(f"a form of {many} kinds")
    if len(unlike) > MOST_RULES:
        raise TooMany("a form of too many rules")
    return (many, tuple(sorted(set(starts))), tuple(sorted(set(ends))), tuple(unlike))


def live(form):
    """The rising list of the kinds of which some grove is."""
    return sorted(live_kinds(form))


def live_kinds(form):
    """The live kinds, as the keys of a dict."""
    found = dict([(end, True) for end in form[2]])
    grown = True
    while grown:
        grown = False
        for kind, tag, inner, rest in form[3]:
            if kind not in found and inner in found and rest in found:
                found[kind] = True
                grown = True
    return found


def trimmed(form):
    """The form without the kinds and rules that no grove that fits needs."""
    alive = live_kinds(form)
    rules = [rule for rule in form[3] if rule[2] in alive and rule[3] in alive]
    kept = reached([start for start in form[1] if start in alive], rules)
    numbers = {}
    for kind in sorted(kept):
        numbers[kind] = len(numbers)
    starts = [numbers[start] for start in form[1] if start in numbers]
    ends = [numbers[end] for end in form[2] if end in numbers]
    renamed = []
    for kind, tag, inner, rest in rules:
        if kind in numbers:
            renamed.append((numbers[kind], tag, numbers[inner], numbers[rest]))
    return sorted_form(len(numbers), starts, ends, renamed)


def reached(starts, rules):
    """The kinds to which one comes from the starts by the rules, as the keys of a dict."""
    found = dict([(start, True) for start in starts])
    waiting = list(starts)
    while waiting:
        come_to = waiting.pop()
        for kind, tag, inner, rest in rules:
            if kind == come_to:
                waiting.extend([other for other in (inner, rest) if other not in found])
                found[inner] = True
                found[rest] = True
    return found
