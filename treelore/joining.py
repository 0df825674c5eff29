"""Two sides of one base: where they clash, both joined, the one carried over the other, and trees joined three ways."""

from treelore.deeds import check_bounds
from treelore.errors import Clashing
from treelore.matching import top_matching
from treelore.sides import Edits, check_side, key_of, many_ahead, path_behind, side_of, takes_with, tree_behind


def clash(tree, one, other):
    """The numbers of the first two edits that clash, None where none do."""
    check_side(tree, one)
    check_side(tree, other)
    return first_clash(one, other)


def first_clash(one, other):
    """The least number of the one side's edits that clash with one of the other's, and of it the least of these."""
    for ours, edit in enumerate(one):
        for theirs, like in enumerate(other):
            if is_clash(edit, like):
                return (ours, theirs)
    return None


def is_clash(edit, other):
    """Whether two edits, one of each side, clash."""
    if edit[0] == "out" or other[0] == "out":
        return edit[0] != other[0] and (takes_with(edit, other) or takes_with(other, edit))
    return key_of(edit) == key_of(other) and edit != other


def check_together(tree, one, other):
    """Refuse two sides that clash, then such as come together beyond the bounds; the tree to which both lead."""
    found = first_clash(one, other)
    if found is not None:
        raise Clashing(found[0], found[1])
    behind = tree_behind(tree, all_edits(one, other))
    check_bounds(behind)
    return behind


def all_edits(one, other):
    """The edits of two sides that don't clash, joined to one side."""
    edits = [edit for edit in one if not is_out_beneath(edit, other)]
    edits.extend(edits_beyond(one, other))
    return tuple(sorted(edits, key=key_of))


def edits_beyond(one, other):
    """The edits of the other side that the one hasn't done already."""
    return [edit for edit in other if edit not in one and not is_out_beneath(edit, one)]


def is_out_beneath(edit, side):
    """Whether an edit is an out beneath a part that a side takes out."""
    return edit[0] == "out" and any([takes_with(out, edit) and out != edit for out in side])


def joined_sides(tree, one, other):
    """The side that has all edits of two."""
    check_side(tree, one)
    check_side(tree, other)
    check_together(tree, one, other)
    return all_edits(one, other)


def carried(tree, one, other):
    """The other side carried over the one: a side of the tree to which that leads."""
    check_side(tree, one)
    check_side(tree, other)
    check_together(tree, one, other)
    done = Edits(one)
    edits = []
    trees = {}
    for edit in edits_beyond(one, other):
        path = path_behind(edit[1], done)
        if edit[0] == "put":
            # Those that come to one seat do so in the order of their old ones.
            seat = (path, many_ahead(edit[1], edit[2], done))
            trees[seat] = trees.get(seat, ()) + edit[3]
        else:
            edits.append((edit[0], path) + edit[2:])
    edits.extend([("put", path, at, trees[(path, at)]) for path, at in trees])
    return tuple(sorted(edits, key=key_of))


def three_ways(tree, ours, theirs):
    """The base led by what ours and theirs did to it."""
    our_side = side_of(tree, ours, top_matching(tree, ours))
    their_side = side_of(tree, theirs, top_matching(tree, theirs))
    return check_together(tree, our_side, their_side)
