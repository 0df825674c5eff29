"""Tags, trees and paths: what they are, and what stands at a tree's places."""

from treelore.errors import NoPath, NoPlace, NoTree

SIZE = 60
DEPTH = 12
SIGNS = 8


def is_count(thing):
    """Whether a thing is a number from 0 on; truths are none."""
    return isinstance(thing, int) and not isinstance(thing, bool) and thing >= 0


def is_number(thing, most):
    """Whether a thing is a number from 0 to most."""
    return is_count(thing) and thing <= most


def is_tag(thing):
    """Whether a thing is a text of 1 to SIGNS small letters."""
    if not isinstance(thing, str) or not 1 <= len(thing) <= SIGNS:
        return False
    return all(["a" <= sign <= "z" for sign in thing])


def is_path(thing):
    """Whether a thing is a tuple of less than DEPTH numbers, each below SIZE."""
    if not isinstance(thing, tuple) or len(thing) >= DEPTH:
        return False
    return all([is_number(step, SIZE - 1) for step in thing])


def is_tree(thing):
    """Whether a thing is a tree within the bounds."""
    return room_behind(thing, DEPTH, SIZE) is not None


def room_behind(thing, levels, room):
    """How many more places there is room for behind those of a tree, None where the thing is no tree or too great.

    One place is taken from the room for each call, so a thing that says
    the same part very often is left as soon as the room is used up.
    """
    if levels == 0 or room == 0 or not is_tag_and_kids(thing):
        return None
    left = room - 1
    for kid in thing[1]:
        left = room_behind(kid, levels - 1, left)
        if left is None:
            return None
    return left


def is_tag_and_kids(thing):
    """Whether a thing is a pair of a tag and a tuple, whatever the tuple has."""
    return isinstance(thing, tuple) and len(thing) == 2 and is_tag(thing[0]) and isinstance(thing[1], tuple)


def size_of(tree):
    """How many places a tree has."""
    check_tree(tree)
    return count_places(tree)


def depth_of(tree):
    """How many levels a tree has."""
    check_tree(tree)
    return count_levels(tree)


def has_place(tree, path):
    """Whether a path is a place of a tree."""
    check_tree(tree)
    check_path(path)
    return part_at(tree, path) is not None


def part_of(tree, path):
    """The tree that begins at a place."""
    check_tree(tree)
    check_place(tree, path)
    return part_at(tree, path)


def places_of(tree):
    """All paths of a tree, in their order."""
    check_tree(tree)
    return paths_from(tree, ())


def check_tree(thing):
    """Refuse what is no tree."""
    if not is_tree(thing):
        raise NoTree()


def check_path(thing):
    """Refuse what is no path."""
    if not is_path(thing):
        raise NoPath()


def check_place(tree, thing):
    """Refuse what is no path, or no place of the tree."""
    check_path(thing)
    if part_at(tree, thing) is None:
        raise NoPlace(thing)


def count_places(tree):
    """How many places a tree has that may be beyond the bounds."""
    return 1 + sum([count_places(kid) for kid in tree[1]])


def count_levels(tree):
    """How many levels a tree has that may be beyond the bounds."""
    return 1 + max([count_levels(kid) for kid in tree[1]], default=0)


def part_at(tree, path):
    """The part at a path, None where that is no place of the tree."""
    part = tree
    for step in path:
        if step >= len(part[1]):
            return None
        part = part[1][step]
    return part


def paths_from(tree, path):
    """The paths of a part that stands at path, in their order."""
    paths = [path]
    for at, kid in enumerate(tree[1]):
        paths.extend(paths_from(kid, path + (at,)))
    return paths
