"""Papers of columns: why each place of the narrowest drawing stands no farther left, and the judge of such papers."""

from treelore.drawing import first_kids, least_columns, lefts_of, room_left
from treelore.sameness import is_same
from treelore.trees import check_tree, is_count, part_at, paths_from


class Reasons:
    """The least columns of a tree, and for each place the others by which it may be told why it stands there."""

    def __init__(self, tree):
        self.tree = tree
        self.columns = least_columns(tree)
        self.lefts = lefts_of(tree)

    def pusher(self, path):
        """The place beside it whose tag ends right ahead of a place, None where there is none."""
        left = self.lefts[path]
        return left if room_left(self.tree, left, self.columns) == self.columns[path] else None

    def other_by(self, word, path):
        """The place that a why of this word names for a place, None where it can't be said of that."""
        if word == "beside":
            return self.pusher(path)
        if word == "first" and len(part_at(self.tree, path)[1]) > 0:
            return path + (0,)
        if word == "above" and path != () and path[-1] == 0:
            return path[:-1]
        return None


def right_columns(tree, paper):
    """Whether a thing is a right paper of columns of a tree.

    Ranks fall from each place to the one that it goes by, down to an edge:
    so no column can be less than that of the paper, and as they are those
    of a drawing they are the least ones.
    """
    check_tree(tree)
    reasons = Reasons(tree)
    paths = paths_from(tree, ())
    if not isinstance(paper, tuple) or len(paper) != len(paths):
        return False
    ranks = {}
    for path, row in zip(paths, paper):
        if not is_row(row) or not is_same(row[:2], (path, reasons.columns[path])):
            return False
        ranks[path] = row[3]
    return all([is_reason(reasons, row[0], row[2], ranks) for row in paper])


def is_row(thing):
    """Whether a thing is a tuple of four things, the third one a tuple and the last one a rank."""
    return isinstance(thing, tuple) and len(thing) == 4 and isinstance(thing[2], tuple) and is_count(thing[3])


def is_reason(reasons, path, why, ranks):
    """Whether a place stands in its column for that why."""
    if len(why) == 1:
        return why[0] == "edge" and reasons.columns[path] == 0
    if len(why) != 2:
        return False
    other = reasons.other_by(why[0], path)
    return other is not None and is_same(why[1], other) and ranks[path] > ranks[other]


def columns_paper(tree):
    """A right paper of columns of a tree."""
    check_tree(tree)
    reasons = Reasons(tree)
    rows = {}
    for path in paths_from(tree, ()):
        if path not in rows:
            write_row(reasons, first_kids(tree, path), rows)
    return tuple([(path, reasons.columns[path]) + rows[path] for path in paths_from(tree, ())])


def write_row(reasons, places, rows):
    """Write why and rank of places that stand in one column, each the first kid of the one ahead of it."""
    if reasons.columns[places[0]] == 0:
        for path in places:
            rows[path] = (("edge",), 0)
        return
    # One of them is pushed by what stands beside it; the others go by that one, those above it and those below.
    pushed = [number for number, path in enumerate(places) if reasons.pusher(path) is not None][0]
    left = reasons.pusher(places[pushed])
    rank = rows[left][1] + 1
    rows[places[pushed]] = (("beside", left), rank)
    for number in range(len(places)):
        if number < pushed:
            rows[places[number]] = (("first", places[number + 1]), rank + pushed - number)
        elif number > pushed:
            rows[places[number]] = (("above", places[number - 1]), rank + number - pushed)
