"""Changers written as texts, and read."""

from formgrove.changers import MOST_MODES
from formgrove.errors import NoRecipe
from formgrove.exprs import Source
from formgrove.words import is_tag


def shown(changer):
    """The text of a changer."""
    return "; ".join([str(changer[0])] + [shown_rule(mode, tag, parts) for mode, tag, parts in changer[1]])


def shown_rule(mode, tag, parts):
    """The text of a rule."""
    return f"{mode} {tag} = " + (shown_parts(parts) if parts else "{}")


def shown_parts(parts):
    """The text of one part or more."""
    return " ".join([shown_part(part) for part in parts])


def shown_part(part):
    """The text of a part."""
    if part[0] == "kids":
        return str(part[1])
    return part[1] + "(" + shown_parts(part[2]) + ")" if part[2] else part[1]


def read(text):
    """The changer that is written as the text; NoRecipe where none is."""
    return take_changer(Source(text))


def take_changer(source):
    """Read a changer, up to the end of the text."""
    modes = take_number(source, 1, MOST_MODES)
    rules = []
    while source.skips("; "):
        rule = take_rule(source, modes)
        if rules and rules[-1][:2] >= rule[:2]:
            raise NoRecipe("rules out of their order")
        rules.append(rule)
    if not source.at_end():
        raise NoRecipe("no changer is written so")
    return (modes, tuple(rules))


def take_number(source, least, greatest):
    """Read a figure from the least number to the greatest one."""
    figures = source.take_letters("0", "9")
    if len(figures) != 1 or not least <= int(figures) <= greatest:
        raise NoRecipe(f"{figures!r} is no number from {least} to {greatest}")
    return int(figures)


def take_tag(source):
    """Read a tag."""
    tag = source.take_letters("a", "z")
    if not is_tag(tag):
        raise NoRecipe(f"{tag!r} is no tag")
    return tag


def skip(source, piece):
    """Go behind a piece of a text; NoRecipe where the text doesn't go on with it."""
    if not source.skips(piece):
        raise NoRecipe(f"{piece!r} is missing")


def take_rule(source, modes):
    """Read a rule of a changer of so many modes."""
    mode = take_number(source, 0, modes - 1)
    skip(source, " ")
    tag = take_tag(source)
    skip(source, " = ")
    return (mode, tag, () if source.skips("{}") else take_parts(source, modes))


def take_parts(source, modes):
    """Read one part or more.

    The open tags are kept in lists, since texts that no changer is written as may go deeper than calls safely can.
    """
    tags = []
    rows = [[]]
    going = True
    while going:
        if "0" <= source.text[source.at:source.at + 1] <= "9":
            rows[-1].append(("kids", take_number(source, 0, modes - 1)))
        else:
            tags.append(take_tag(source))
            rows.append([])
            if source.skips("("):
                continue
            end_tag(tags, rows)
        while tags and source.skips(")"):
            end_tag(tags, rows)
        going = source.skips(" ")
    if tags:
        raise NoRecipe("a tag isn't ended")
    return tuple(rows[0])


def end_tag(tags, rows):
    """Put the last open tag, with its row of parts, behind the parts of the row around it."""
    parts = tuple(rows.pop())
    rows[-1].append(("tag", tags.pop(), parts))
