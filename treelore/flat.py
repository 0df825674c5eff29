"""Flat rows of trees, and a make that keeps nothing but such a row."""

from treelore.errors import NoFlat
from treelore.makes import Make
from treelore.runs import behind_part, changed_row, part_in, place_in, row_of
from treelore.trees import DEPTH, SIZE, check_place, check_tree, is_number, is_tag


def is_flat(thing):
    """Whether a thing is the flat row of a tree."""
    if not isinstance(thing, tuple) or not 1 <= len(thing) <= SIZE:
        return False
    low = 0
    high = 0
    for pair in thing:
        if not is_level_and_tag(pair) or not low <= pair[0] <= high:
            return False
        low = 1
        high = pair[0] + 1
    return True


def is_level_and_tag(thing):
    """Whether a thing is a pair of a flat row."""
    return isinstance(thing, tuple) and len(thing) == 2 and is_number(thing[0], DEPTH - 1) and is_tag(thing[1])


def flat_of(tree):
    """The flat row of a tree."""
    check_tree(tree)
    return row_of(tree, 0)


def tree_of_flat(flat):
    """The tree that has this flat row."""
    if not is_flat(flat):
        raise NoFlat()
    return part_in(flat, 0)


class FlatTree(Make):
    """A make that keeps its tree as a flat row alone."""

    def plant(self, tree):
        """Keep the first tree's row."""
        self.row = row_of(tree, 0)

    def act(self, deed):
        """Do a deed that fits on the row."""
        self.row = changed_row(self.row, deed)

    def value(self):
        """The tree."""
        return part_in(self.row, 0)

    def flat(self):
        """The flat row."""
        return self.row

    def span(self, path):
        """The number of a place in the walk ahead, and the one behind its part's last."""
        check_place(self.value(), path)
        first = place_in(self.row, path)
        return (first, behind_part(self.row, first))
