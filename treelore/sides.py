"""Sides: edits of a base that are done all at once, and the tree to which they lead."""

from treelore.errors import NoMatching, NoSide
from treelore.matching import is_top, unlike_pairs
from treelore.steps import is_within
from treelore.trees import DEPTH, SIZE, check_place, check_tree, count_levels, count_places, is_number, is_path, is_tag
from treelore.trees import is_tree, part_at


class Edits:
    """The edits of a side by where they are: new_tags and outs by their paths, puts by path and at."""

    def __init__(self, side):
        self.new_tags = {edit[1]: edit[2] for edit in side if edit[0] == "name"}
        self.outs = {edit[1]: True for edit in side if edit[0] == "out"}
        self.puts = {edit[1:3]: edit[3] for edit in side if edit[0] == "put"}

    def trees_at(self, path, at):
        """The trees that come ahead of the at-th kid of a place."""
        return self.puts.get((path, at), ())


def is_edit(tree, thing):
    """Whether a thing is an edit of a base."""
    if not isinstance(thing, tuple) or len(thing) < 2 or not is_path(thing[1]):
        return False
    word, path = thing[:2]
    part = part_at(tree, path)
    if part is None:
        return False
    if word == "name":
        return len(thing) == 3 and is_tag(thing[2])
    if word == "out":
        return len(thing) == 2 and path != ()
    return word == "put" and len(thing) == 4 and is_number(thing[2], len(part[1])) and is_row_of_trees(thing[3])


def is_row_of_trees(thing):
    """Whether a thing is a tuple of one or more trees."""
    return isinstance(thing, tuple) and len(thing) > 0 and all([is_tree(tree) for tree in thing])


def key_of(edit):
    """By what the edits of a side rise: path, word and at."""
    return (edit[1], edit[0], edit[2] if edit[0] == "put" else 0)


def takes_with(edit, other):
    """Whether an edit takes out the part within which another one is."""
    return edit[0] == "out" and is_within(other[1], edit[1])


def goes_on(side, edit):
    """Whether an edit may stand behind those of a side."""
    if len(side) > 0 and key_of(side[-1]) >= key_of(edit):
        return False
    return not any([takes_with(elder, edit) or takes_with(edit, elder) for elder in side])


def first_wrong(tree, edits):
    """The number of the first of some things that with those ahead of it is none of a side, None where all are."""
    for at, edit in enumerate(edits):
        if not is_edit(tree, edit) or not goes_on(edits[:at], edit):
            return at
    return None


def check_side(tree, thing):
    """Refuse what is no side of a base."""
    check_tree(tree)
    if not isinstance(thing, tuple):
        raise NoSide(None)
    wrong = first_wrong(tree, thing)
    if wrong is not None:
        raise NoSide(wrong)
    behind = tree_behind(tree, thing)
    if count_places(behind) > SIZE or count_levels(behind) > DEPTH:
        raise NoSide(None)


def is_side(tree, thing):
    """Whether a thing is a side of a base."""
    try:
        check_side(tree, thing)
    except NoSide:
        return False
    return True


def led_by_side(tree, side):
    """The tree to which a side leads its base."""
    check_side(tree, side)
    return tree_behind(tree, side)


def tree_behind(tree, side):
    """The tree in which all edits are done, which may be beyond the bounds."""
    return part_behind(tree, (), Edits(side))


def part_behind(part, path, edits):
    """The part at path in which all edits are done."""
    tag, kids = part
    run = []
    for at, kid in enumerate(kids):
        run.extend(edits.trees_at(path, at))
        if path + (at,) not in edits.outs:
            run.append(part_behind(kid, path + (at,), edits))
    run.extend(edits.trees_at(path, len(kids)))
    return (edits.new_tags.get(path, tag), tuple(run))


def place_led(tree, side, path):
    """Where a place of a base stands in the tree to which a side leads, None if it is taken out."""
    check_side(tree, side)
    check_place(tree, path)
    return path_behind(path, Edits(side))


def path_behind(path, edits):
    """Where a place of the base stands when all edits are done, None if it is taken out."""
    there = ()
    for level, step in enumerate(path):
        above = path[:level]
        if above + (step,) in edits.outs:
            return None
        there += (many_ahead(above, step, edits) + len(edits.trees_at(above, step)),)
    return there


def many_ahead(path, at, edits):
    """How many kids stand ahead of what is put at a place and at, when all edits are done."""
    many = 0
    for step in range(at):
        many += len(edits.trees_at(path, step))
        if path + (step,) not in edits.outs:
            many += 1
    return many


def side_of(one, other, matching):
    """The side by which a top matching leads the one tree into the other."""
    if not is_top(one, other, matching):
        raise NoMatching("matching")
    edits = [("name", path, part_at(other, place)[0]) for path, place in unlike_pairs(one, other, matching)]
    kept = {path: True for path, place in matching}
    partners = {place: path for path, place in matching}
    for path, place in matching:
        many = len(part_at(one, path)[1])
        edits.extend([("out", path + (at,)) for at in range(many) if path + (at,) not in kept])
        edits.extend(puts_at(path, many, part_at(other, place), place, partners))
    return tuple(sorted(edits, key=key_of))


def puts_at(path, many, like, place, partners):
    """The puts that bring to path, which has so many kids, those kids of its partner that have none, by their runs."""
    puts = []
    run = ()
    for at, kid in enumerate(like[1]):
        if place + (at,) not in partners:
            run += (kid,)
        elif len(run) > 0:
            puts.append(("put", path, partners[place + (at,)][-1], run))
            run = ()
    if len(run) > 0:
        puts.append(("put", path, many, run))
    return puts
