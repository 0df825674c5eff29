"""A second, unlike telling of trees and deeds, by which the program is judged: knobs that are shifted about in place.

A knob stays the same object wherever a deed brings it, so that what a place
is led to can be read off, instead of being reckoned from its path.
"""


class Knob:
    def __init__(self, tag, kids):
        self.tag = tag
        self.kids = kids


def knob_of(tree):
    return Knob(tree[0], [knob_of(kid) for kid in tree[1]])


def tree_of(knob):
    return (knob.tag, tuple(tree_of(kid) for kid in knob.kids))


def knob_at(knob, path):
    for step in path:
        knob = knob.kids[step]
    return knob


def knobs_of(knob, path=()):
    """All (path, knob), a place ahead of its kids."""
    rows = [(path, knob)]
    for at, kid in enumerate(knob.kids):
        rows.extend(knobs_of(kid, path + (at,)))
    return rows


def find_knob(root, wanted):
    for path, knob in knobs_of(root):
        if knob is wanted:
            return path
    return None


def above_of(root, wanted):
    """The knob above a knob, and the number of the kid."""
    for _, knob in knobs_of(root):
        for at, kid in enumerate(knob.kids):
            if kid is wanted:
                return knob, at
    raise LookupError


def do_on_knobs(root, deed):
    """Do a deed that fits, in place."""
    word = deed[0]
    spot = knob_at(root, deed[1])
    if word == "name":
        spot.tag = deed[2]
    elif word == "put":
        spot.kids.insert(deed[2], knob_of(deed[3]))
    elif word == "out":
        above, at = above_of(root, spot)
        del above.kids[at]
    elif word == "move":
        other = knob_at(root, deed[2])
        above, at = above_of(root, spot)
        del above.kids[at]
        other.kids.insert(deed[3], spot)
    elif word == "swap":
        other = knob_at(root, deed[2])
        above, at = above_of(root, spot)
        other_above, other_at = above_of(root, other)
        above.kids[at], other_above.kids[other_at] = other, spot
    elif word == "wrap":
        at, many, tag = deed[2:]
        spot.kids[at:at + many] = [Knob(tag, spot.kids[at:at + many])]
    elif word == "unwrap":
        above, at = above_of(root, spot)
        above.kids[at:at + 1] = spot.kids


def judged(tree, deed):
    """The tree behind a deed that fits, where each place is led (a dict), and the new places, in order."""
    root = knob_of(tree)
    olds = knobs_of(root)
    do_on_knobs(root, deed)
    where = {path: find_knob(root, knob) for path, knob in olds}
    led_there = [path for path in where.values() if path is not None]
    news = [path for path, _ in knobs_of(root) if path not in led_there]
    return tree_of(root), where, news


def size_and_depth(tree):
    rows = knobs_of(knob_of(tree))
    return len(rows), 1 + max(len(path) for path, _ in rows)


def why_not(tree, deed):
    """The name and field of the refusal that is due for a thing of a deed's form, None where it fits."""
    word = deed[0]
    places = [path for path, _ in knobs_of(knob_of(tree))]
    paths = [deed[1], deed[2]] if word in ("move", "swap") else [deed[1]]
    for path in paths:
        if path not in places:
            return "NoPlace", path
    rooted = {"out": paths, "unwrap": paths, "swap": paths, "move": paths[:1]}.get(word, [])
    if () in rooted:
        return "Root", ()
    if len(paths) == 2:
        one, other = paths
        if other[:len(one)] == one or (word == "swap" and one[:len(other)] == other):
            return "Within", other
    far = too_far(tree, deed)
    if far is not None:
        return "NoPlace", far
    size, depth = size_and_depth(judged(tree, deed)[0])
    if size > 60:
        return "TooMany", size
    if depth > 12:
        return "TooDeep", depth
    return None


def too_far(tree, deed):
    word = deed[0]
    root = knob_of(tree)
    if word == "put":
        place, reach, kids = deed[1], deed[2], knob_at(root, deed[1]).kids
    elif word == "wrap":
        place, reach, kids = deed[1], deed[2] + deed[3], knob_at(root, deed[1]).kids
    elif word == "move":
        gone = knob_at(root, deed[1])
        place, reach = deed[2], deed[3]
        kids = [kid for kid in knob_at(root, deed[2]).kids if kid is not gone]
    else:
        return None
    return place + (reach,) if reach > len(kids) else None


def every_deed(tree, put=("new", (("leaf", ()),))):
    """Deeds of each word at each place of a tree, fitting or not, a little beyond its places and kids too."""
    places = [path for path, _ in knobs_of(knob_of(tree))] + [(7,), (0, 5)]
    deeds = []
    for path in places:
        deeds.extend([("name", path, "zz"), ("out", path), ("unwrap", path)])
        deeds.extend([("put", path, at, put) for at in range(5)])
        deeds.extend([("wrap", path, at, many, "w") for at in range(5) for many in range(5)])
        for other in places:
            deeds.append(("swap", path, other))
            deeds.extend([("move", path, other, at) for at in range(5)])
    return deeds


def fitting(tree):
    return [deed for deed in every_deed(tree) if why_not(tree, deed) is None]
