"""A second telling of drawings, by which the program is judged: signs set one by one, columns pushed till all is well."""

from treelore.trees import part_of, places_of


def levels_of(tree):
    rows = {}
    for path in places_of(tree):
        rows.setdefault(len(path), []).append(path)
    return [rows[level] for level in sorted(rows)]


def pushed(tree, columns):
    """The least columns that aren't left of these and are a drawing's: pushed until nothing moves."""
    columns = dict(columns)
    moving = True
    while moving:
        moving = False
        for row in levels_of(tree):
            for left, right in zip(row, row[1:]):
                room = columns[left] + len(part_of(tree, left)[0]) + 1
                if columns[right] < room:
                    columns[right], moving = room, True
        for path in columns:
            if path and path[-1] == 0 and columns[path] != columns[path[:-1]]:
                columns[path] = columns[path[:-1]] = max(columns[path], columns[path[:-1]])
                moving = True
    return columns


def least(tree):
    return pushed(tree, {path: 0 for path in places_of(tree)})


def signs_of(tree, columns):
    """The sign at each (row, column) that isn't blank, with what stands there."""
    signs = {}
    for path, column in columns.items():
        tag, kids = part_of(tree, path)
        for at, sign in enumerate(tag):
            signs[2 * len(path), column + at] = (sign, ("tag", path))
        seats = [columns[path + (at,)] for at in range(len(kids))]
        for at in range(column, seats[-1] + 1) if kids else ():
            signs[2 * len(path) + 1, at] = ("+" if at in seats else "-", ("line", path))
    return signs


def sketched(tree, columns):
    """The rows of the drawing that has these columns."""
    signs = signs_of(tree, columns)
    rows = []
    for row in range(1 + max(row for row, column in signs)):
        width = 1 + max(column for other, column in signs if other == row)
        rows.append("".join(signs.get((row, column), (" ",))[0] for column in range(width)))
    return tuple(rows)


def wider(tree, mixer, many):
    """Columns of a wider drawing: some places stand farther right than they must."""
    columns = least(tree)
    for _ in range(many):
        columns[mixer.one_of(sorted(columns))] += mixer.below(4)
    return pushed(tree, columns)


def all_drawings(width, levels):
    """All drawings of so many levels at most, no wider than told, whose tags are of the letter a alone."""
    found = []

    def rows_at(seats):
        """All rows of tags at these columns."""
        rows = [""]
        for at, seat in enumerate(seats):
            room = (seats[at + 1] - 1 if at + 1 < len(seats) else width) - seat
            rows = [row.ljust(seat) + "a" * length for row in rows for length in range(1, min(room, 8) + 1)]
        return rows

    def line_rows(places, first):
        """All choices of lines for places, none of which begins left of first: tuples of tuples of kids' columns."""
        if not places:
            return [()]
        rest = [((),) + more for more in line_rows(places[1:], first)]
        if places[0] >= first:
            for kids in kid_rows((places[0],)):
                rest += [(kids,) + more for more in line_rows(places[1:], kids[-1] + 2)]
        return rest

    def kid_rows(kids):
        rows = [kids]
        for seat in range(kids[-1] + 2, width):
            rows += kid_rows(kids + (seat,))
        return rows

    def grow(rows, seats, level):
        for row in rows_at(seats):
            drawing = rows + (row,)
            found.append(drawing)
            if level < levels:
                for lines in line_rows(seats, 0):
                    kids = tuple(seat for line in lines for seat in line)
                    if kids:
                        text = ""
                        for line in lines:
                            if line:
                                signs = "".join("+" if at in line else "-" for at in range(line[0], line[-1] + 1))
                                text = text.ljust(line[0]) + signs
                        grow(drawing + (text,), kids, level + 1)

    for seat in range(width):
        grow((), (seat,), 1)
    return found
