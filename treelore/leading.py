"""Places led through deeds, the way back, and lists of deeds."""

from treelore.deeds import done
from treelore.errors import NoDeed, Stopped, TreeError
from treelore.steps import behind_move, behind_out, behind_put, behind_swap, behind_unwrap, behind_wrap
from treelore.trees import check_place, check_tree, part_at, paths_from


def led(tree, deed, path):
    """Where a place stands behind a deed, None if it is gone."""
    done(tree, deed)
    check_place(tree, path)
    return place_behind(tree, deed, path)


def places_led(tree, deed):
    """The pairs of each path and where it stands behind a deed that fits, None if it is gone, in the paths' order."""
    return [(path, place_behind(tree, deed, path)) for path in paths_from(tree, ())]


def place_behind(tree, deed, path):
    """Where a place of the tree stands behind a deed that fits."""
    word = deed[0]
    if word == "put":
        return behind_put(path, deed[1], deed[2])
    if word == "out":
        return behind_out(path, deed[1])
    if word == "move":
        return behind_move(path, deed[1], deed[2], deed[3])
    if word == "swap":
        return behind_swap(path, deed[1], deed[2])
    if word == "wrap":
        return behind_wrap(path, deed[1], deed[2], deed[3])
    if word == "unwrap":
        return behind_unwrap(path, deed[1], len(part_at(tree, deed[1])[1]))
    return path


def deed_back(tree, deed):
    """A deed that leads the tree behind a deed, and each place that is left, back to where it was."""
    done(tree, deed)
    word = deed[0]
    path = deed[1]
    part = part_at(tree, path)
    if word == "name":
        return ("name", path, part[0])
    if word == "put":
        return ("out", path + (deed[2],))
    if word == "out":
        return ("put", path[:-1], path[-1], part)
    if word == "move":
        return move_back(deed)
    if word == "wrap":
        return ("unwrap", path + (deed[2],))
    if word == "unwrap":
        return ("wrap", path[:-1], path[-1], len(part[1]), part[0])
    return ("swap", path, deed[2])


def move_back(deed):
    """The move back, by the paths that stand behind the move."""
    path, other, at = deed[1:]
    above = behind_move(path[:-1], path, other, at)
    return ("move", behind_move(path, path, other, at), above, path[-1])


def all_done(tree, deeds):
    """The tree behind a list of deeds, one behind another."""
    check_tree(tree)
    if not isinstance(deeds, list):
        raise NoDeed()
    behind = tree
    for at, deed in enumerate(deeds):
        try:
            behind = done(behind, deed)
        except TreeError:
            raise Stopped(at) from None
    return behind
