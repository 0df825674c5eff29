"""Flat rows, and the deeds done on them by exchanging runs: a place is told by its number in the row."""


def row_of(tree, level):
    """The flat row of a part whose top stands at a level."""
    tag, kids = tree
    row = [(level, tag)]
    for kid in kids:
        row.extend(row_of(kid, level + 1))
    return tuple(row)


def part_in(row, first):
    """The part that begins at a place of the row."""
    return (row[first][1], tuple([part_in(row, kid) for kid in kids_in(row, first)]))


def behind_part(row, first):
    """The number behind the last place of the part that begins at first."""
    behind = first + 1
    while behind < len(row) and row[behind][0] > row[first][0]:
        behind += 1
    return behind


def kids_in(row, first):
    """The numbers of a place's kids."""
    level = row[first][0] + 1
    return [number for number in range(first + 1, behind_part(row, first)) if row[number][0] == level]


def place_in(row, path):
    """The number of the place at a path."""
    first = 0
    for step in path:
        first = kids_in(row, first)[step]
    return first


def seat_in(row, first, at):
    """The number at which the at-th kid of a place stands, or would stand behind its last one."""
    seats = kids_in(row, first) + [behind_part(row, first)]
    return seats[at]


def exchanged(row, first, behind, run):
    """The row with another run instead of that from first to behind."""
    return row[:first] + run + row[behind:]


def shifted(run, level):
    """A run of whole parts whose tops stand at a level then."""
    if len(run) == 0:
        return run
    by = level - run[0][0]
    return tuple([(old + by, tag) for old, tag in run])


def named_row(row, deed):
    """The row behind a name."""
    path, tag = deed[1:]
    first = place_in(row, path)
    return exchanged(row, first, first + 1, ((len(path), tag),))


def put_row(row, deed):
    """The row behind a put."""
    path, at, tree = deed[1:]
    seat = seat_in(row, place_in(row, path), at)
    return exchanged(row, seat, seat, row_of(tree, len(path) + 1))


def out_row(row, deed):
    """The row behind an out."""
    first = place_in(row, deed[1])
    return exchanged(row, first, behind_part(row, first), ())


def moved_row(row, deed):
    """The row behind a move."""
    path, other, at = deed[1:]
    first = place_in(row, path)
    behind = behind_part(row, first)
    place = place_in(row, other)
    if place >= behind:
        place -= behind - first
    rest = exchanged(row, first, behind, ())
    seat = seat_in(rest, place, at)
    return exchanged(rest, seat, seat, shifted(row[first:behind], len(other) + 1))


def swapped_row(row, deed):
    """The row behind a swap."""
    early, late = sorted([place_in(row, deed[1]), place_in(row, deed[2])])
    early_run = row[early:behind_part(row, early)]
    late_run = row[late:behind_part(row, late)]
    # The later run is exchanged first, as that leaves the number of the earlier one as it is.
    half = exchanged(row, late, late + len(late_run), shifted(early_run, late_run[0][0]))
    return exchanged(half, early, early + len(early_run), shifted(late_run, early_run[0][0]))


def wrapped_row(row, deed):
    """The row behind a wrap."""
    path, at, many, tag = deed[1:]
    place = place_in(row, path)
    first = seat_in(row, place, at)
    behind = seat_in(row, place, at + many)
    level = len(path) + 1
    return exchanged(row, first, behind, ((level, tag),) + shifted(row[first:behind], level + 1))


def unwrapped_row(row, deed):
    """The row behind an unwrap."""
    path = deed[1]
    first = place_in(row, path)
    behind = behind_part(row, first)
    return exchanged(row, first, behind, shifted(row[first + 1:behind], len(path)))


ROW_CHANGES = {
    "name": named_row,
    "put": put_row,
    "out": out_row,
    "move": moved_row,
    "swap": swapped_row,
    "wrap": wrapped_row,
    "unwrap": unwrapped_row,
}


def changed_row(row, deed):
    """The row behind a deed that fits its tree."""
    change = ROW_CHANGES[deed[0]]
    return change(row, deed)
