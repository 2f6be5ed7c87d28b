"""Of which kinds a grove is, and the runs that lead through it."""

from formgrove.words import closings, words_of


def kinds_of(form, grove):
    """The rising list of the kinds of which a grove is."""
    return sorted(kinds_at(form, words_of(grove))[0])


def kinds_at(form, words):
    """For each place of a grove's words and the one behind the last: the kinds, as the keys of a dict,
    of which the rest of a row is that begins there."""
    at_end = dict([(end, True) for end in form[2]])
    told = [at_end] * (len(words) + 1)
    ended_at = closings(words)
    by_tag = {}
    for rule in form[3]:
        by_tag.setdefault(rule[1], []).append(rule)
    for place in sorted(ended_at, reverse=True):
        rules = by_tag.get(words[place], [])
        told[place] = kinds_above(rules, told[place + 1], told[ended_at[place] + 1])
    return told


def kinds_above(rules, within, others):
    """The kinds that rules of one tag give a row, told of the kinds of what is within its first tree,
    and of those of the trees behind."""
    found = {}
    for kind, tag, inner, rest in rules:
        if inner in within and rest in others:
            found[kind] = True
    return found


def fits(form, grove):
    """Whether a grove is of a start of the form."""
    kinds = kinds_at(form, words_of(grove))[0]
    return any([start in kinds for start in form[1]])


def run_of(form, grove):
    """The first run that leads through a grove, with the least start; None where it doesn't fit."""
    words = words_of(grove)
    told = kinds_at(form, words)
    starts = [start for start in form[1] if start in told[0]]
    if not starts:
        return None
    return (min(starts), first_numbers(form, words, told, min(starts)))


def first_numbers(form, words, told, start):
    """The first list of rule numbers that leads through words from a start, told of which kinds
    the rests at their places are.

    Whether a rule leads on hangs on what is within and behind alone, so the first rule that does is the
    right one at each tag.
    """
    ended_at = closings(words)
    numbers = []
    rests = []
    kind = start
    for place, word in enumerate(words):
        if word == "/":
            kind = rests.pop()
        else:
            number = first_number(form[3], kind, word, told[place + 1], told[ended_at[place] + 1])
            numbers.append(number)
            rests.append(form[3][number][3])
            kind = form[3][number][2]
    return numbers


def first_number(rules, kind, tag, within, others):
    """The number of the first rule of a kind and tag whose inner and rest are among the kinds of what is
    within and behind; there is one."""
    found = []
    for number, rule in enumerate(rules):
        if rule[0] == kind and rule[1] == tag and rule[2] in within and rule[3] in others:
            found.append(number)
    return found[0]


def walks(form, grove, run):
    """Whether a run, of whatever whole numbers, leads through a grove."""
    kind = run[0]
    words = words_of(grove)
    if kind not in form[1] or 2 * len(run[1]) != len(words):
        return False
    left = list(run[1][::-1])
    rests = []
    for word in words:
        if word == "/":
            if kind not in form[2]:
                return False
            kind = rests.pop()
        else:
            number = left.pop()
            if not 0 <= number < len(form[3]) or form[3][number][:2] != (kind, word):
                return False
            rests.append(form[3][number][3])
            kind = form[3][number][2]
    return kind in form[2]
