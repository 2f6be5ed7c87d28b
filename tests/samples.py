"""Groves for the tests, made by the document's words alone and not by the program."""


def flat(count, tag="a"):
    """A row of `count` trees with nothing within."""
    return ((tag, ()),) * count


def nested(count, tag="a"):
    """`count` tags, each within the one ahead."""
    grove = ()
    for _ in range(count):
        grove = ((tag, grove),)
    return grove


def bounds():
    """A grove of 300 tags that is 100 deep."""
    return nested(100, "deep") + flat(100, "b") + nested(99, "c") + flat(1)


def groves_of_size(size, tags):
    """All groves of just so many tags."""
    if size == 0:
        return [()]
    found = []
    for inner in range(size):
        for within in groves_of_size(inner, tags):
            for others in groves_of_size(size - 1 - inner, tags):
                for tag in tags:
                    found.append(((tag, within),) + others)
    return found


def groves_up_to(size, tags):
    """All groves of at most so many tags."""
    return [grove for count in range(size + 1) for grove in groves_of_size(count, tags)]


def spelled(grove):
    """The words of a grove."""
    words = []
    for tag, within in grove:
        words += [tag] + spelled(within) + ["/"]
    return words


def plain_grove(words):
    """The grove that has the words."""
    rows = [[]]
    for word in words:
        if word == "/":
            within = tuple(rows.pop())
            rows[-1][-1] = (rows[-1][-1], within)
        else:
            rows[-1].append(word)
            rows.append([])
    return tuple(rows[0])


def written(grove):
    """The text of a grove."""
    return " ".join(tag + ("(" + written(within) + ")" if within else "") for tag, within in grove)


def is_of(form, kind, grove):
    """Whether a grove is of a kind."""
    if not grove:
        return kind in form[2]
    tag, within = grove[0]
    return any(is_of(form, inner, within) and is_of(form, rest, grove[1:])
               for above, word, inner, rest in form[3] if (above, word) == (kind, tag))


def random_parts(chance, many, tags, count):
    """What a form is made of: at most `many` kinds, and `count` rules, perhaps with doubles."""
    kinds = chance.randrange(1, many + 1)
    starts = [chance.randrange(kinds) for _ in range(chance.randrange(3))]
    ends = [chance.randrange(kinds) for _ in range(chance.randrange(3))]
    rules = [(chance.randrange(kinds), chance.choice(tags), chance.randrange(kinds), chance.randrange(kinds))
             for _ in range(chance.randrange(count + 1))]
    return kinds, starts, ends, rules


def full(level, tag="a"):
    """A grove of 2 ** level - 1 tags: one tag, with the same of the level below within it and behind it."""
    grove = ()
    for _ in range(level):
        grove = ((tag, grove),) + grove
    return grove


def of_count(count):
    """A form whose only start, the last kind, has just one grove, of so many tags (at most 511); and that grove."""
    rules = [(kind, "a", kind - 1, kind - 1) for kind in range(1, 9)]
    kind = 9
    grove = ()
    rest = 0
    left = count
    while left:
        level = max(number for number in range(9) if 2 ** number <= left)
        rules.append((kind, "a", level, rest))
        grove = (("a", full(level)),) + grove
        left -= 2 ** level
        rest = kind
        kind += 1
    return (kind, (rest,), (0,), tuple(sorted(rules))), grove


NIL = ("nil",)


def random_expr(chance, levels, names, inner_names):
    """An expression at most so deep; outside of tags it uses the one names, within them the others."""
    labels = ["nil", "name", "tag", "tag", "turn", "turn", "or", "or", "many", "some", "maybe"]
    label = "tag" if levels == 2 and chance.random() < 0.7 else chance.choice(labels)
    if levels == 1 or label in ("nil", "name"):
        return ("name", chance.choice(names)) if names and chance.random() < 0.7 else NIL
    if label == "tag":
        return ("tag", chance.choice(["a", "b"]), random_expr(chance, levels - 1, inner_names, inner_names))
    if label in ("turn", "or"):
        return (label, tuple(random_expr(chance, levels - 1, names, inner_names)
                             for _ in range(chance.choice([2, 2, 3]))))
    return (label, random_expr(chance, levels - 1, names, inner_names))


def random_book(chance, levels):
    """A book of three pairs without a ring: outside of tags each name uses later ones alone."""
    names = ["A", "BB", "C"]
    return tuple((name, random_expr(chance, levels, names[number + 1:], names)) for number, name in enumerate(names))


def told_groves(names, expr, most):
    """All groves of at most so many tags that are as an expression tells, made part by part."""
    label = expr[0]
    if label == "nil":
        return {()}
    if label == "tag":
        return {((expr[1], within),) for within in told_groves(names, expr[2], most - 1)} if most else set()
    if label == "name":
        return told_groves(names, names[expr[1]], most)
    if label == "turn":
        found = {()}
        for part in expr[1]:
            found = beside(found, told_groves(names, part, most), most)
        return found
    if label == "or":
        return set().union(*[told_groves(names, part, most) for part in expr[1]])
    part = told_groves(names, expr[1], most)
    if label == "maybe":
        return part | {()}
    found = set(part)
    for _ in range(most):
        found |= beside(found, part, most)
    return found | {()} if label == "many" else found


def beside(ones, others, most):
    """Each of the ones with each of the others behind it, of at most so many tags."""
    return {one + other for one in ones for other in others if len(spelled(one + other)) <= 2 * most}


def fitting(form, groves):
    """Those of some groves that fit a form."""
    return [grove for grove in groves if any(is_of(form, start, grove) for start in form[1])]


def tag_names(count):
    """So many unlike tags."""
    letters = "abcdefghijklmnopqrstuvwxyz"
    return [letters[number // 26] + letters[number % 26] for number in range(count)]


def lively_form(chance, many, tags, count):
    """A form of at most `many` kinds that some grove fits, with about `count` rules."""
    while True:
        kinds = chance.randrange(2, many + 1)
        starts = {chance.randrange(kinds) for _ in range(chance.choice([1, 1, 2]))}
        ends = {chance.randrange(kinds) for _ in range(chance.choice([1, 1, 2]))}
        rules = {(chance.randrange(kinds), chance.choice(tags), chance.randrange(kinds), chance.randrange(kinds))
                 for _ in range(chance.randrange(count // 2, count + 1))}
        made = (kinds, tuple(sorted(starts)), tuple(sorted(ends)), tuple(sorted(rules)))
        if len(fitting(made, groves_up_to(2, tags))) > 1:
            return made


def become(changer, grove, mode=0):
    """What comes of a grove in a mode."""
    rules = {(above, tag): parts for above, tag, parts in changer[1]}
    made = ()
    for tag, within in grove:
        if (mode, tag) in rules:
            made += come_of(changer, rules[(mode, tag)], within)
        else:
            made += ((tag, become(changer, within, mode)),)
    return made


def come_of(changer, parts, within):
    """What parts tell of a tag with a grove within."""
    made = ()
    for part in parts:
        if part[0] == "kids":
            made += become(changer, within, part[1])
        else:
            made += ((part[1], come_of(changer, part[2], within)),)
    return made


def random_parts_of_rule(chance, modes, tags, levels):
    """At most three parts, each at most so deep."""
    parts = []
    for _ in range(chance.choice([0, 1, 1, 2, 3])):
        if levels == 1 or chance.random() < 0.4:
            parts.append(("kids", chance.randrange(modes)))
        else:
            parts.append(("tag", chance.choice(tags), random_parts_of_rule(chance, modes, tags, levels - 1)))
    return tuple(parts)


def random_changer(chance, modes, tags, levels=3):
    """A changer of just so many modes, with a rule for about half of the modes and tags."""
    rules = [(mode, tag, random_parts_of_rule(chance, modes, tags, levels))
             for mode in range(modes) for tag in sorted(tags) if chance.random() < 0.5]
    return (modes, tuple(rules))


def leads(form, first, last, grove):
    """Whether a row leads from one kind to another."""
    if not grove:
        return first == last
    tag, within = grove[0]
    return any(is_of(form, inner, within) and leads(form, rest, last, grove[1:])
               for kind, word, inner, rest in form[3] if (kind, word) == (first, tag))


def variants(row, place, most, tags):
    """All changes of a row that begins at a place, of a price of at most `most`, that put and name by some tags:
    tuples (price, changes, grove)."""
    found = []
    for count in range(most + 1):
        for put in groves_of_size(count, tags):
            ahead = [("put", place, tree) for tree in put]
            found += [(count + price, ahead + changes, put + grove)
                      for price, changes, grove in unput_variants(row, place, most - count, tags)]
    return found


def unput_variants(row, place, most, tags):
    """Those of the changes of a row that put nothing at its first place."""
    if not row:
        return [(0, [], ())]
    tag, within = row[0]
    size = len(spelled(row[:1])) // 2
    firsts = []
    if size <= most:
        firsts.append((size, [("cut", place)], ()))
    for price, changes, grove in variants(within, place + 1, most, tags):
        firsts.append((price, changes, ((tag, grove),)))
        if price < most:
            firsts += [(1 + price, [("name", place, other)] + changes, ((other, grove),)) for other in tags]
    return [(one + other, changes + more, tree + grove) for one, changes, tree in firsts
            for other, more, grove in variants(row[1:], place + 2 * size, most - one, tags)]


def kids_in(parts):
    """How many kids there are in parts, at all depths together."""
    return sum(1 if part[0] == "kids" else kids_in(part[2]) for part in parts)


def random_straight(chance, modes, tags, levels=3):
    """A changer of just so many modes whose rules use what is within at most once."""
    made = random_changer(chance, modes, tags, levels)
    return (modes, tuple(rule for rule in made[1] if kids_in(rule[2]) <= 1))


def rests_of(row, place=0):
    """For each place of a row that begins at a place, and the one behind it, the rest that begins there."""
    found = {place: row}
    if row:
        found.update(rests_of(row[0][1], place + 1))
        found.update(rests_of(row[1:], place + len(spelled(row[:1]))))
    return found
