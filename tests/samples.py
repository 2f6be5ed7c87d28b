"""Groves for the tests, made by the document's words alone and not by the program."""


def flat(count, tag="a"):
    """A row of `count` trees with nothing within."""
    return ((tag, ()),) * count


def nested(count, tag="a"):
    """`count` tags, each within the one ahead."""
    grove = ()
    for _ in range(count):
        grove = ((tag, grove),)
    return grove


def bounds():
    """A grove of 300 tags that is 100 deep."""
    return nested(100, "deep") + flat(100, "b") + nested(99, "c") + flat(1)


def groves_of_size(size, tags):
    """All groves of just so many tags."""
    if size == 0:
        return [()]
    found = []
    for inner in range(size):
        for within in groves_of_size(inner, tags):
            for others in groves_of_size(size - 1 - inner, tags):
                for tag in tags:
                    found.append(((tag, within),) + others)
    return found


def groves_up_to(size, tags):
    """All groves of at most so many tags."""
    return [grove for count in range(size + 1) for grove in groves_of_size(count, tags)]


def spelled(grove):
    """The words of a grove."""
    words = []
    for tag, within in grove:
        words += [tag] + spelled(within) + ["/"]
    return words


def written(grove):
    """The text of a grove."""
    return " ".join(tag + ("(" + written(within) + ")" if within else "") for tag, within in grove)
