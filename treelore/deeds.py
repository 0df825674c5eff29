"""Deeds: what they are, when they fit a tree, and the tree behind them."""

from treelore.errors import NoDeed, NoPlace, Root, TooDeep, TooMany, Within
from treelore.steps import behind_out, is_within
from treelore.trees import DEPTH, SIZE, check_tree, count_levels, count_places, is_number, is_path, is_tag, is_tree
from treelore.trees import part_at

# What stands behind each word of a deed, in order.
FORMS = {
    "name": ("path", "tag"),
    "put": ("path", "number", "tree"),
    "out": ("path",),
    "move": ("path", "path", "number"),
    "swap": ("path", "path"),
    "wrap": ("path", "number", "number", "tag"),
    "unwrap": ("path",),
}


def is_deed(thing):
    """Whether a thing has the form of a deed."""
    if not has_word(thing):
        return False
    return all([is_of_form(form, field) for form, field in zip(FORMS[thing[0]], thing[1:])])


def has_word(thing):
    """Whether a thing is a tuple of a deed's word and as many things as that asks for."""
    # Only texts are looked up: of another thing a hash may be missing, or take very long.
    if not isinstance(thing, tuple) or len(thing) == 0 or not isinstance(thing[0], str):
        return False
    return thing[0] in FORMS and len(thing) == 1 + len(FORMS[thing[0]])


def is_of_form(form, thing):
    """Whether a thing is a path, tag, number or tree, as the form says."""
    if form == "path":
        return is_path(thing)
    if form == "tag":
        return is_tag(thing)
    if form == "tree":
        return is_tree(thing)
    return is_number(thing, SIZE)


def done(tree, deed):
    """The tree behind a deed."""
    check_tree(tree)
    if not is_deed(deed):
        raise NoDeed()
    check_places(tree, deed)
    check_roots(deed)
    check_apart(deed)
    check_at(tree, deed)
    behind = changed(tree, deed)
    check_bounds(behind)
    return behind


def check_places(tree, deed):
    """Refuse a deed one of whose paths is no place."""
    for form, field in zip(FORMS[deed[0]], deed[1:]):
        if form == "path" and part_at(tree, field) is None:
            raise NoPlace(field)


def check_roots(deed):
    """Refuse a deed that would take the tree's own place away."""
    word = deed[0]
    if word in ("out", "move", "unwrap", "swap") and deed[1] == ():
        raise Root(())
    if word == "swap" and deed[2] == ():
        raise Root(())


def check_apart(deed):
    """Refuse a move into the moved part, and a swap of a part with what is within it."""
    word = deed[0]
    if word in ("move", "swap") and is_within(deed[2], deed[1]):
        raise Within(deed[2])
    if word == "swap" and is_within(deed[1], deed[2]):
        raise Within(deed[2])


def check_at(tree, deed):
    """Refuse a deed that counts more kids than there are."""
    word = deed[0]
    if word == "put":
        check_reach(tree, deed[1], deed[2], 0)
    if word == "wrap":
        check_reach(tree, deed[1], deed[2] + deed[3], 0)
    if word == "move":
        # The kids are counted when the moved part is out: that may be one of them.
        fewer = 1 if deed[1][:-1] == deed[2] else 0
        check_reach(tree, deed[2], deed[3], fewer)


def check_reach(tree, path, reach, fewer):
    """Refuse a reach beyond the kids of a place, of which so many don't count."""
    if reach > len(part_at(tree, path)[1]) - fewer:
        raise NoPlace(path + (reach,))


def check_bounds(tree):
    """Refuse a tree that a deed has made too great."""
    size = count_places(tree)
    if size > SIZE:
        raise TooMany(size)
    depth = count_levels(tree)
    if depth > DEPTH:
        raise TooDeep(depth)


def changed(tree, deed):
    """The tree behind a deed that fits, or that fails by the bounds alone."""
    change = CHANGES[deed[0]]
    return change(tree, deed)


def with_part(tree, path, part):
    """The tree with another part at a place."""
    if path == ():
        return part
    at = path[0]
    return with_run(tree, at, 1, (with_part(tree[1][at], path[1:], part),))


def with_run(tree, at, many, run):
    """The tree with a run of other kids instead of so many of its own, from the at-th on."""
    tag, kids = tree
    return (tag, kids[:at] + run + kids[at + many:])


def with_run_at(tree, path, at, many, run):
    """The tree in which the part at path has a run of other kids."""
    return with_part(tree, path, with_run(part_at(tree, path), at, many, run))


def named(tree, deed):
    """The tree behind a name."""
    path, tag = deed[1:]
    return with_part(tree, path, (tag, part_at(tree, path)[1]))


def put_in(tree, deed):
    """The tree behind a put."""
    path, at, part = deed[1:]
    return with_run_at(tree, path, at, 0, (part,))


def taken_out(tree, deed):
    """The tree behind an out."""
    path = deed[1]
    return with_run_at(tree, path[:-1], path[-1], 1, ())


def moved(tree, deed):
    """The tree behind a move."""
    path, other, at = deed[1:]
    rest = taken_out(tree, ("out", path))
    return with_run_at(rest, behind_out(other, path), at, 0, (part_at(tree, path),))


def swapped(tree, deed):
    """The tree behind a swap."""
    path, other = deed[1:]
    half = with_part(tree, path, part_at(tree, other))
    return with_part(half, other, part_at(tree, path))


def wrapped(tree, deed):
    """The tree behind a wrap."""
    path, at, many, tag = deed[1:]
    kids = part_at(tree, path)[1]
    return with_run_at(tree, path, at, many, ((tag, kids[at:at + many]),))


def unwrapped(tree, deed):
    """The tree behind an unwrap."""
    path = deed[1]
    return with_run_at(tree, path[:-1], path[-1], 1, part_at(tree, path)[1])


CHANGES = {
    "name": named,
    "put": put_in,
    "out": taken_out,
    "move": moved,
    "swap": swapped,
    "wrap": wrapped,
    "unwrap": unwrapped,
}
