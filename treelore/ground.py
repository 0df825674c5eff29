"""A tree laid out for asking: its places have numbers, and a set of places is a number, a bit for each of them."""

from treelore.patterns import places_along
from treelore.steps import is_within
from treelore.trees import part_at, paths_from


def numbers_in(places):
    """The numbers of the places of a set, rising."""
    return [number for number in range(places.bit_length()) if places >> number & 1 == 1]


class Ground:
    """A tree's places, numbered in the walk ahead: so they rise as their paths do.

    paths has them by their numbers, numbers the other way round; whole is
    the set of all of them; reaches keeps what reach has reckoned.
    """

    def __init__(self, tree):
        self.tree = tree
        self.paths = paths_from(tree, ())
        self.numbers = {path: number for number, path in enumerate(self.paths)}
        self.whole = (1 << len(self.paths)) - 1
        self.reaches = {}

    def set_of(self, paths):
        """The set of some places."""
        return sum([1 << self.numbers[path] for path in paths])

    def paths_of(self, places):
        """The paths of a set of places, rising."""
        return [self.paths[number] for number in numbers_in(places)]

    def set_within(self, top):
        """The set of a place and those beneath it."""
        return self.set_of([path for path in self.paths if is_within(path, top)])

    def set_where(self, test):
        """The set of places where a test holds that has no test or pattern within it."""
        return self.set_of([path for path in self.paths if holds_alone(test, path, part_at(self.tree, path))])

    def reach(self, way):
        """Of each place, by its number, the set of those to which a way leads from it."""
        if way not in self.reaches:
            self.reaches[way] = [self.set_of(places_along(self.tree, way, path)) for path in self.paths]
        return self.reaches[way]

    def leading_to(self, way, places):
        """The set of places from which a way leads to some of a set."""
        return sum([1 << number for number, there in enumerate(self.reach(way)) if there & places != 0])

    def led_from(self, way, places):
        """The set of places to which a way leads from some of a set."""
        there = self.reach(way)
        together = 0
        for number in numbers_in(places):
            together |= there[number]
        return together


def holds_alone(test, path, part):
    """Whether a test holds of a place, by its path and its part alone."""
    word = test[0]
    tag, kids = part
    if word == "tag":
        return tag == test[1]
    if word == "starts":
        return tag.startswith(test[1])
    if word == "kids":
        return test[1] <= len(kids) <= test[2]
    if word == "at":
        return path != () and path[-1] == test[1]
    return True


def test_rows(ground, test):
    """The set of places where a test holds, and the rows of the patterns within it, in order."""
    word = test[0]
    if word == "not":
        held, rows = test_rows(ground, test[1])
        return (ground.whole ^ held, rows)
    if word in ("both", "one"):
        held, rows = test_rows(ground, test[1])
        other, more = test_rows(ground, test[2])
        return (held & other if word == "both" else held | other, rows + more)
    if word == "lacks":
        rows = fit_rows(ground, test[2])
        return (ground.whole ^ ground.leading_to(test[1], rows[0]), rows)
    return (ground.set_where(test), [])


def fit_rows(ground, pattern):
    """The sets of places where all patterns of a pattern fit, in order."""
    fitting, rows = test_rows(ground, pattern[1])
    for way, need in pattern[2]:
        below = fit_rows(ground, need)
        fitting &= ground.leading_to(way, below[0])
        rows.extend(below)
    return [fitting] + rows
