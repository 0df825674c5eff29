"""Where a path leads when what stands beside, above or at it is shifted: paths alone, without their tree."""


def is_within(path, top):
    """Whether a path is top or beneath it."""
    return path[:len(top)] == top


def behind_out(path, out):
    """The path behind the taking out of the part at out; None where it is within that."""
    if is_within(path, out):
        return None
    last = len(out) - 1
    if is_within(path, out[:last]) and len(path) > last and path[last] > out[last]:
        return path[:last] + (path[last] - 1,) + path[last + 1:]
    return path


def behind_put(path, place, at):
    """The path behind a part's coming in as the at-th kid of a place."""
    level = len(place)
    if is_within(path, place) and len(path) > level and path[level] >= at:
        return place + (path[level] + 1,) + path[level + 1:]
    return path


def behind_move(path, moved, other, at):
    """The path behind a part's going from moved to the at-th kid of the place other."""
    place = behind_out(other, moved)
    if is_within(path, moved):
        return place + (at,) + path[len(moved):]
    return behind_put(behind_out(path, moved), place, at)


def behind_swap(path, one, other):
    """The path behind an exchange of the parts at one and other."""
    if is_within(path, one):
        return other + path[len(one):]
    if is_within(path, other):
        return one + path[len(other):]
    return path


def behind_wrap(path, place, at, many):
    """The path behind a new place's coming above so many kids of a place, from the at-th on."""
    level = len(place)
    if not is_within(path, place) or len(path) == level or path[level] < at:
        return path
    step = path[level]
    if step < at + many:
        return place + (at, step - at) + path[level + 1:]
    return place + (step - many + 1,) + path[level + 1:]


def behind_unwrap(path, gone, many):
    """The path behind the going of the place at gone, which has so many kids; None for that place itself."""
    if path == gone:
        return None
    last = len(gone) - 1
    above = gone[:last]
    if is_within(path, gone):
        return above + (gone[last] + path[last + 1],) + path[last + 2:]
    if is_within(path, above) and len(path) > last and path[last] > gone[last]:
        return above + (path[last] + many - 1,) + path[last + 1:]
    return path
