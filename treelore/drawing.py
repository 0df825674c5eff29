"""Trees drawn with signs: the narrowest drawing, drawings read back or torn, and what stands at a sign."""

from treelore.errors import NoRows, Torn, TreeError
from treelore.trees import DEPTH, SIZE, check_tree, is_tag, part_at, paths_from
from treelore.walks import paths_in

WIDE = 600


def columns_of(tree):
    """The pairs of each path and its least column, in the places' order."""
    check_tree(tree)
    columns = least_columns(tree)
    return [(path, columns[path]) for path in paths_from(tree, ())]


def least_columns(tree):
    """The least column of each place, by its path.

    A place stands in one column with its first kid, with that one's first
    kid, and so on. Whatever pushes such a row of places to the right stands
    in one that begins earlier in the walk ahead, so one walk is enough.
    """
    lefts = lefts_of(tree)
    columns = {}
    for path in paths_from(tree, ()):
        if path not in columns:
            row = first_kids(tree, path)
            column = max([room_left(tree, lefts[place], columns) for place in row])
            for place in row:
                columns[place] = column
    return columns


def lefts_of(tree):
    """Of each place the one ahead of it in its level's row, None where it is the first."""
    lefts = {}
    last = None
    for path in paths_in(tree, "levels"):
        lefts[path] = last if last is not None and len(last) == len(path) else None
        last = path
    return lefts


def first_kids(tree, path):
    """A place, its first kid, that one's first kid, and so on."""
    row = [path]
    part = part_at(tree, path)
    while len(part[1]) > 0:
        part = part[1][0]
        row.append(row[-1] + (0,))
    return row


def room_left(tree, left, columns):
    """The least column behind the tag of the place at left, 0 where there is none."""
    if left is None:
        return 0
    return columns[left] + len(part_at(tree, left)[0]) + 1


def drawn(tree):
    """The narrowest drawing of a tree."""
    check_tree(tree)
    return tuple([row_text(row) for row in rows_of(tree)])


def rows_of(tree):
    """The rows of the narrowest drawing, each a list of (column, text, what stands there), from the left."""
    columns = least_columns(tree)
    rows = []
    for path in paths_in(tree, "levels"):
        tag, kids = part_at(tree, path)
        while len(rows) < 2 * len(path) + 2:
            rows.append([])
        rows[2 * len(path)].append((columns[path], tag, ("tag", path)))
        if len(kids) > 0:
            line = line_text([columns[path + (at,)] for at in range(len(kids))])
            rows[2 * len(path) + 1].append((columns[path], line, ("line", path)))
    # Below the lowest level there are no lines.
    return rows[:-1]


def line_text(columns):
    """The line above kids in these columns."""
    text = "+"
    for last, column in zip(columns, columns[1:]):
        text += "-" * (column - last - 1) + "+"
    return text


def row_text(row):
    """The text of a row."""
    text = ""
    for column, piece, there in row:
        text = text.ljust(column) + piece
    return text


def width_of(tree):
    """How many signs the longest row of the narrowest drawing has."""
    return max([len(row) for row in drawn(tree)])


def sign_at(tree, row, column):
    """What stands at a row and a column of the narrowest drawing."""
    check_tree(tree)
    rows = rows_of(tree)
    if row < len(rows):
        for first, piece, there in rows[row]:
            if first <= column < first + len(piece):
                return there
    return None


def is_drawing(tree, thing):
    """Whether a thing is a drawing of a tree."""
    check_tree(tree)
    try:
        return read_drawing(thing) == tree
    except TreeError:
        return False


def read_drawing(thing):
    """The tree of which a thing is a drawing."""
    if not isinstance(thing, tuple):
        raise NoRows()
    reader = RowReader()
    for at, row in enumerate(thing):
        pieces = pieces_of(row)
        went_on = reader.read_lines(pieces) if at & 1 else reader.read_tags(pieces)
        if not went_on:
            raise Torn(at)
    # The last row is one of tags: else there are no kids below its lines, or no rows at all.
    if len(thing) & 1 == 0:
        raise Torn(len(thing))
    return reader.part_read(0, 0)


def pieces_of(thing):
    """The pieces of a row between its blanks, each with its column; none where the thing is no row of a drawing."""
    if not isinstance(thing, str) or len(thing) > WIDE or thing.endswith(" "):
        return []
    pieces = []
    column = 0
    for piece in thing.split(" "):
        if len(piece) > 0:
            pieces.append((column, piece))
        column += len(piece) + 1
    return pieces


def is_line(text):
    """Whether a text is a line: a + at both ends, no two of them side by side, - between."""
    if not text.startswith("+") or not text.endswith("+") or "++" in text:
        return False
    return all([sign in "+-" for sign in text])


class RowReader:
    """Reads a drawing row by row: tag_rows has of each level (tag, first, many), from the left.

    The kids of such a place are so many of the next level, from the one of
    the number first on. columns are those of the last row of tags, due those
    at which the tags of the next one must stand, None ahead of the first row;
    begun is how many places there are by now, those that are due too.
    """

    def __init__(self):
        self.tag_rows = []
        self.columns = []
        self.due = None
        self.begun = 1

    def read_tags(self, pieces):
        """Read a row of tags; whether some drawing goes on so."""
        columns = [column for column, text in pieces]
        if self.due is None:
            self.due = columns[:1]
        if len(pieces) == 0 or columns != self.due or not all([is_tag(text) for column, text in pieces]):
            return False
        self.tag_rows.append([(text, 0, 0) for column, text in pieces])
        self.columns = columns
        return True

    def read_lines(self, pieces):
        """Read a row of lines; whether some drawing goes on so."""
        if len(pieces) == 0 or len(self.tag_rows) == DEPTH:
            return False
        self.due = []
        for column, text in pieces:
            if column not in self.columns or not is_line(text):
                return False
            kids = [column + at for at, sign in enumerate(text) if sign == "+"]
            number = self.columns.index(column)
            self.tag_rows[-1][number] = (self.tag_rows[-1][number][0], len(self.due), len(kids))
            self.due.extend(kids)
        self.begun += len(self.due)
        return self.begun <= SIZE

    def part_read(self, level, number):
        """The part at a level whose place is of that number there."""
        tag, first, many = self.tag_rows[level][number]
        return (tag, tuple([self.part_read(level + 1, kid) for kid in range(first, first + many)]))
