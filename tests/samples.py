"""Groves for the tests, made by the document's words alone and not by the program."""


def flat(count, tag="a"):
    """A row of `count` trees with nothing within."""
    return ((tag, ()),) * count


def nested(count, tag="a"):
    """`count` tags, each within the one ahead."""
    grove = ()
    for _ in range(count):
        grove = ((tag, grove),)
    return grove


def bounds():
    """A grove of 300 tags that is 100 deep."""
    return nested(100, "deep") + flat(100, "b") + nested(99, "c") + flat(1)


def groves_of_size(size, tags):
    """All groves of just so many tags."""
    if size == 0:
        return [()]
    found = []
    for inner in range(size):
        for within in groves_of_size(inner, tags):
            for others in groves_of_size(size - 1 - inner, tags):
                for tag in tags:
                    found.append(((tag, within),) + others)
    return found


def groves_up_to(size, tags):
    """All groves of at most so many tags."""
    return [grove for count in range(size + 1) for grove in groves_of_size(count, tags)]


def spelled(grove):
    """The words of a grove."""
    words = []
    for tag, within in grove:
        words += [tag] + spelled(within) + ["/"]
    return words


def written(grove):
    """The text of a grove."""
    return " ".join(tag + ("(" + written(within) + ")" if within else "") for tag, within in grove)


def is_of(form, kind, grove):
    """Whether a grove is of a kind."""
    if not grove:
        return kind in form[2]
    tag, within = grove[0]
    return any(is_of(form, inner, within) and is_of(form, rest, grove[1:])
               for above, word, inner, rest in form[3] if (above, word) == (kind, tag))


def random_parts(chance, many, tags, count):
    """What a form is made of: at most `many` kinds, and `count` rules, perhaps with doubles."""
    kinds = chance.randrange(1, many + 1)
    starts = [chance.randrange(kinds) for _ in range(chance.randrange(3))]
    ends = [chance.randrange(kinds) for _ in range(chance.randrange(3))]
    rules = [(chance.randrange(kinds), chance.choice(tags), chance.randrange(kinds), chance.randrange(kinds))
             for _ in range(chance.randrange(count + 1))]
    return kinds, starts, ends, rules
