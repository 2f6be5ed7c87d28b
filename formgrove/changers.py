"""Changers: tuples (modes, rules) by which groves become others."""

from formgrove.errors import BadChanger, TooBig
from formgrove.least import MOST_TAGS
from formgrove.words import closings, is_tag, words_of

MOST_MODES = 4
DEEPEST_GROVE = 100


def changer(modes, rules):
    """A changer made of a list of rules in any order; BadChanger where there can't be one."""
    if not 1 <= modes <= MOST_MODES:
        raise BadChanger(f"there can't be {modes} modes")
    known = {}
    for mode, tag, parts in rules:
        refuse_bad_part(modes, ("kids", mode))
        refuse_bad_part(modes, ("tag", tag, parts))
        for part in all_parts(parts):
            refuse_bad_part(modes, part)
        if (mode, tag) in known:
            raise BadChanger(f"mode {mode} has two rules for {tag}")
        known[(mode, tag)] = parts
    return (modes, tuple([(mode, tag, known[(mode, tag)]) for mode, tag in sorted(known)]))


def refuse_bad_part(modes, part):
    """BadChanger where a part, whatever is within it, has a mode or a tag that is none."""
    if part[0] == "kids" and not 0 <= part[1] < modes:
        mode = part[1]
        raise BadChanger(f"{mode} is no mode of {modes}")
    if part[0] == "tag" and not is_tag(part[1]):
        tag = part[1]
        raise BadChanger(f"{tag!r} is no tag")


def all_parts(parts):
    """The parts and all within them, at any depth, from the left."""
    found = []
    for part in parts:
        found.append(part)
        if part[0] == "tag":
            found.extend(all_parts(part[2]))
    return found


def parts_by_rule(changer):
    """The parts of each rule of a changer, by its mode and tag."""
    return dict([((mode, tag), parts) for mode, tag, parts in changer[1]])


def parts_for(known, mode, tag):
    """The parts that tell what comes of a tag in a mode: the rule's, or, where there is none, the same tag."""
    return known.get((mode, tag), (("tag", tag, (("kids", mode),)),))


def come_of_parts(parts, kids, sense):
    """What parts tell, in some sense, told of what comes of what is within in the modes that they name."""
    row = sense.nothing()
    for part in parts:
        if part[0] == "kids":
            piece = kids[part[1]]
        else:
            piece = sense.tree(part[1], come_of_parts(part[2], kids, sense))
        row = sense.beside(row, piece)
    return row


def come_of(changer, words, mode, sense):
    """What comes of a grove's words in a mode, in some sense.

    What comes of a rest is told once for each mode that is needed there, since rules may use it many times over.
    """
    known = parts_by_rule(changer)
    modes = modes_at(known, words, mode)
    ended_at = closings(words)
    told = [dict([(each, sense.nothing()) for each in range(changer[0])])] * (len(words) + 1)
    for place in sorted(ended_at, reverse=True):
        others = told[ended_at[place] + 1]
        come = {}
        for each in modes[place]:
            first = come_of_parts(parts_for(known, each, words[place]), told[place + 1], sense)
            come[each] = sense.beside(first, others[each])
        told[place] = come
    return told[0][mode]


def modes_at(known, words, mode):
    """For each place of a grove's words: the modes, as the keys of a dict, in which its row is to be changed where
    the outermost row is in a mode."""
    found = []
    rows = [{mode: True}]
    for word in words:
        found.append(rows[-1])
        if word == "/":
            rows.pop()
        else:
            rows.append(modes_within(known, rows[-1], word))
    return found


def modes_within(known, modes, tag):
    """The modes, as the keys of a dict, in which what is within a tag is used where the tag's row is in some modes."""
    found = {}
    for mode in modes:
        for part in all_parts(parts_for(known, mode, tag)):
            if part[0] == "kids":
                found[part[1]] = True
    return found


class Bounds:
    """The sense in which of a row there comes a pair: its tags, and how deep it is."""

    def nothing(self):
        """The row without trees."""
        return (0, 0)

    def tree(self, tag, within):
        """A row of one tree."""
        return (1 + within[0], 1 + within[1])

    def beside(self, one, other):
        """Two rows, one behind the other."""
        return (one[0] + other[0], max(one[1], other[1]))


class Groves:
    """The sense in which of a row there comes a grove."""

    def nothing(self):
        """The row without trees."""
        return ()

    def tree(self, tag, within):
        """A row of one tree."""
        return ((tag, within),)

    def beside(self, one, other):
        """Two rows, one behind the other."""
        return one + other


def changed(changer, grove, mode=0):
    """What comes of a grove in a mode; TooBig where it would have more than 300 tags or be more than 100 deep."""
    words = words_of(grove)
    bounds = come_of(changer, words, mode, Bounds())
    refuse_great(bounds[0], bounds[1])
    return come_of(changer, words, mode, Groves())


def refuse_great(tags, deep):
    """TooBig where a grove of so many tags that is so deep isn't to be told."""
    if tags > MOST_TAGS or deep > DEEPEST_GROVE:
        raise TooBig(f"a grove of {tags} tags that is {deep} deep")
