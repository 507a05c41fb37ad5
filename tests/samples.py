"""Things that more than one test speaks of."""

KEPT = ("rule", "fact", "if", "and", "not")


def deep(make, times=30):
    thing = make([])
    for step in range(times):
        thing = make([thing])
    return thing


JUNK = (
    None, True, False, 0, 1, -1, 2, 10 ** 30,
    "", " ", "\n", "a", "abcdefgh", "abcdefghi", "Ab", "aB", "a b", "a1", "a_", "a\n", "~", "1", "yes", "no", "YES",
    "A", "Z9", "A10", "AB", "Aa", "A1b", "1A", "A_", "a'", "a', ('b",
    (), [], ("a",), ["a"], ("A",), ("a", "b"), ["a", "b"], ("a", ()), ("a", []), ["a", ()], ("a", ("b",)),
    ("p", ("Q",)), ("yes", ("p", ())), ("no", ("p", ("A",))), ("yes", ("p", ("A",))), (("p", ()), ()), ((), ()),
    deep(tuple), deep(list),
) + KEPT


def yes(kind, *terms):
    return ("yes", (kind, terms))


def no(kind, *terms):
    return ("no", (kind, terms))


def rule(kind, terms, *body):
    return ((kind, terms), body)


def numbered(count):
    letters = "abcdefghij"
    return [letters[number // 10] + letters[number % 10] for number in range(count)]


def facts_of(count):
    return tuple(("p", (name,)) for name in numbered(count))


def rules_of(count):
    return tuple(rule("p", (name,)) for name in numbered(count))


def places(thing, path=()):
    found = [path]
    if isinstance(thing, (tuple, list)):
        for number, part in enumerate(thing):
            found.extend(places(part, path + (number,)))
    return found


def part_at(thing, path):
    for number in path:
        thing = thing[number]
    return thing


def put_at(thing, path, new):
    if not path:
        return new
    parts = list(thing)
    parts[path[0]] = put_at(parts[path[0]], path[1:], new)
    return tuple(parts) if isinstance(thing, tuple) else parts


def changed(thing):
    """The thing with each of its parts, itself too, put in another form, left out, doubled or replaced."""
    found = []
    for path in places(thing):
        part = part_at(thing, path)
        found.extend(put_at(thing, path, junk) for junk in JUNK)
        if isinstance(part, tuple):
            found.append(put_at(thing, path, list(part)))
            found.append(put_at(thing, path, part + part[-1:]))
            found.append(put_at(thing, path, part[:-1]))
            found.append(put_at(thing, path, part[1:]))
            found.append(put_at(thing, path, part[::-1]))
            found.append(put_at(thing, path, (part,)))
    return found
