"""Numbers kept beside a make: sizes, heights, numbers, tags, levels and leaves."""

from treelore.deeds import changed
from treelore.errors import NoCount, NoKth, NoPath, NoPlace, NoTag
from treelore.makes import Hearer
from treelore.sameness import is_same
from treelore.trees import check_path, check_place, check_tree, count_levels, count_places, is_count, is_tag, part_at
from treelore.trees import paths_from


def count_paper(tree):
    """The count paper of a tree: the size and the height at each place."""
    check_tree(tree)
    return paper_of(tree)


def paper_of(tree):
    """The count paper of a tree that needn't be checked."""
    rows = []
    for path in paths_from(tree, ()):
        part = part_at(tree, path)
        rows.append((path, count_places(part), count_levels(part)))
    return tuple(rows)


def right_counts(tree, paper):
    """Whether a thing is the right count paper of a tree; there is just one."""
    return is_same(paper, count_paper(tree))


def how_many(things):
    """A dict of how often each thing stands in a list."""
    manys = {}
    for thing in things:
        manys[thing] = manys.get(thing, 0) + 1
    return manys


def common_beginning(paths):
    """The longest path with which all of some paths begin."""
    # What the least and the greatest of them begin with, those between them begin with, too.
    low, high = min(paths), max(paths)
    length = 0
    while length < len(low) and low[:length + 1] == high[:length + 1]:
        length += 1
    return low[:length]


class Counts(Hearer):
    """The numbers of a make's tree: tree is the one of which rows, the count paper, and by_tag were reckoned."""

    def __init__(self, make):
        self.base = make
        self.reckon(make.value())
        make.hear(self)

    def reckon(self, tree):
        """Keep the numbers of a tree."""
        self.tree = tree
        self.rows = paper_of(tree)
        self.by_tag = how_many([part_at(tree, row[0])[0] for row in self.rows])

    def heard(self, before, deed):
        """Keep the numbers of the tree behind a deed."""
        self.reckon(changed(before, deed))

    def settle(self):
        """Nothing is left to do: the numbers were kept as the deeds came."""

    def catch_up(self):
        """Reckon anew where the make's tree is one of which nothing was heard yet."""
        tree = self.base.value()
        if tree != self.tree:
            self.reckon(tree)

    def row_at(self, path):
        """The number of a place, and its row of the count paper."""
        self.catch_up()
        check_place(self.tree, path)
        rows = [(number, row) for number, row in enumerate(self.rows) if row[0] == path]
        return rows[0]

    def size_at(self, path):
        """How many places the part at a place has."""
        return self.row_at(path)[1][1]

    def height_at(self, path):
        """How many levels the part at a place has."""
        return self.row_at(path)[1][2]

    def number_of(self, path):
        """The number of a place in the walk ahead."""
        return self.row_at(path)[0]

    def kth(self, number):
        """The path of the place with a number in the walk ahead."""
        self.catch_up()
        if not is_count(number):
            raise NoCount("number")
        if number >= len(self.rows):
            raise NoKth(number)
        return self.rows[number][0]

    def common(self, paths):
        """The path of the least common part of a list of places."""
        self.catch_up()
        if not isinstance(paths, list) or len(paths) == 0:
            raise NoPath()
        for path in paths:
            check_path(path)
        for path in paths:
            if part_at(self.tree, path) is None:
                raise NoPlace(path)
        return common_beginning(paths)

    def tags(self):
        """Each tag and how many places have it, rising."""
        self.catch_up()
        return tuple([(tag, self.by_tag[tag]) for tag in sorted(list(self.by_tag))])

    def of_tag(self, tag):
        """How many places have a tag."""
        self.catch_up()
        if not is_tag(tag):
            raise NoTag()
        return self.by_tag.get(tag, 0)

    def levels(self):
        """How many places there are at each level, from 0 on."""
        self.catch_up()
        manys = how_many([len(row[0]) for row in self.rows])
        return tuple([manys[level] for level in range(len(manys))])

    def leaves(self):
        """How many places have no kids."""
        self.catch_up()
        return len([row for row in self.rows if row[1] == 1])

    def paper(self):
        """The count paper."""
        self.catch_up()
        return self.rows
