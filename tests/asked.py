"""Patterns for the tests, and their plain meaning by the words of the document, by which answers are judged."""

import itertools

from treelore.trees import part_of, places_of

ANY = ("any",)


def pattern(test=ANY, *needs, mark=""):
    return (mark, test, tuple(needs))


def chain(many, test=ANY, way="kid"):
    """So many patterns, each the need of the one ahead of it."""
    told = pattern(test)
    for _ in range(many - 1):
        told = pattern(test, (way, told))
    return told


def nots(many):
    """So many tests, one within another."""
    test = ANY
    for _ in range(many - 1):
        test = ("not", test)
    return test


def leads(way, path, other):
    """Whether a way leads from a path to another one, both places of one tree."""
    if way == "kid":
        return other != () and other[:-1] == path
    if way == "beneath":
        return len(other) > len(path) and other[:len(path)] == path
    if way == "above":
        return leads("kid", other, path)
    if way == "over":
        return leads("beneath", other, path)
    beside = path != () and other != () and path[:-1] == other[:-1]
    if way == "next":
        return beside and other[-1] == path[-1] + 1
    return beside and other[-1] > path[-1]


def holds(tree, test, path):
    tag, kids = part_of(tree, path)
    word = test[0]
    if word == "any":
        return True
    if word == "tag":
        return tag == test[1]
    if word == "starts":
        return tag.startswith(test[1])
    if word == "kids":
        return test[1] <= len(kids) <= test[2]
    if word == "at":
        return path != () and path[-1] == test[1]
    if word == "not":
        return not holds(tree, test[1], path)
    if word == "both":
        return holds(tree, test[1], path) and holds(tree, test[2], path)
    if word == "one":
        return holds(tree, test[1], path) or holds(tree, test[2], path)
    places = [other for other in places_of(tree) if leads(test[1], path, other)]
    return not any(fits_at(tree, test[2], other) for other in places)


def own_of(told):
    return [told] + [own for _, need in told[2] for own in own_of(need)]


def lacked_in(test):
    """The patterns within a test, but not those within them."""
    if test[0] == "lacks":
        return [test[2]]
    return [told for inner in test[1:] if isinstance(inner, tuple) for told in lacked_in(inner)]


def all_of(told):
    inner = lacked_in(told[1]) + [need for _, need in told[2]]
    return [told] + [one for other in inner for one in all_of(other)]


def ways_between(told):
    """Of each own pattern but the first: the number of the one that needs it, and the way."""
    rows = []

    def walk(one, number):
        behind = number + 1
        for way, need in one[2]:
            rows.append((number, way))
            behind = walk(need, behind)
        return behind

    walk(told, 0)
    return rows


def is_plain_reading(tree, told, row):
    """Whether a tuple of as many places as there are own patterns is a reading."""
    if not all(holds(tree, own[1], path) for own, path in zip(own_of(told), row)):
        return False
    return all(leads(way, row[above], path) for (above, way), path in zip(ways_between(told), row[1:]))


def plain_readings(tree, told):
    """All readings, of all tuples of places."""
    return [row for row in itertools.product(places_of(tree), repeat=len(own_of(told))) if is_plain_reading(tree, told, row)]


def fits_at(tree, told, path):
    return any(row[0] == path for row in plain_readings(tree, told))


def plain_answers(tree, told, within=()):
    marked = [at for at, own in enumerate(own_of(told)) if own[0] != ""]
    rows = [row for row in plain_readings(tree, told) if row[0][:len(within)] == within]
    return tuple(sorted({tuple(row[at] for at in marked) for row in rows}))
