"""What leads one tree into another costs: walks behind, spans, their worths, and tables of these."""

from treelore.errors import NoCosts, TooMany
from treelore.trees import check_tree, count_places, is_count, part_at
from treelore.walks import paths_behind

COST = 100
NEAR = 12


def is_costs(thing):
    """Whether a thing is a tuple of three numbers from 1 to COST."""
    if not isinstance(thing, tuple) or len(thing) != 3:
        return False
    return all([is_count(cost) and 1 <= cost <= COST for cost in thing])


def walk_behind(tree):
    """The paths of a tree in the walk behind."""
    check_tree(tree)
    return tuple(paths_behind(tree, ()))


def lows_of(tree):
    """Of each place, in the walk behind, the least number within its part."""
    check_tree(tree)
    return tuple([low for tag, low in labels_of(tree)])


def labels_of(tree):
    """The list of the pairs of tag and LOW of all places, in the walk behind."""
    labels = []
    for number, path in enumerate(paths_behind(tree, ())):
        part = part_at(tree, path)
        labels.append((part[0], number + 1 - count_places(part)))
    return labels


class Weighing:
    """Two trees, by the labels of their places, and the costs by which they are weighed.

    Two spans are told together as (a, b, c, d): (a, b) of the one tree and
    (c, d) of the other.
    """

    def __init__(self, one, other, costs):
        self.one = labels_of(one)
        self.other = labels_of(other)
        self.costs = costs

    def below_tops(self):
        """The two spans of all places but the trees' own."""
        return (0, len(self.one) - 1, 0, len(self.other) - 1)

    def naming(self, number, other):
        """What it costs that two places, one of each tree, are a pair."""
        return self.costs[0] if self.one[number][0] != self.other[other][0] else 0


def weighed(one, other, costs):
    """The weighing of two trees by costs, refused as it is told of each that needs it."""
    check_tree(one)
    check_tree(other)
    if not is_costs(costs):
        raise NoCosts("costs")
    for tree in (one, other):
        if count_places(tree) > NEAR:
            raise TooMany(count_places(tree))
    return Weighing(one, other, costs)


def is_empty(spans):
    """Whether one of two spans has no numbers."""
    return spans[0] == spans[1] or spans[2] == spans[3]


def choices_of(weighing, spans):
    """The three ways to go by from two spans that aren't empty: what each costs, and the spans whose worths it adds."""
    a, b, c, d = spans
    low, other_low = weighing.one[b - 1][1], weighing.other[d - 1][1]
    return [
        (weighing.costs[1], [(a, b - 1, c, d)]),
        (weighing.costs[2], [(a, b, c, d - 1)]),
        (weighing.naming(b - 1, d - 1), [(a, low, c, other_low), (low, b - 1, other_low, d - 1)]),
    ]


def worth_in(weighing, spans, rows):
    """The worth of two spans, of empty ones reckoned, of others by the rows, None where there is no such row."""
    a, b, c, d = spans
    if is_empty(spans):
        return weighing.costs[1] * (b - a) + weighing.costs[2] * (d - c)
    return rows.get(spans)


def least_by(weighing, spans, rows):
    """The least that two spans that aren't empty come to by the rows, None where one that they go by has none."""
    sums = []
    for cost, inner in choices_of(weighing, spans):
        worths = [worth_in(weighing, pair, rows) for pair in inner]
        if None in worths:
            return None
        sums.append(cost + sum(worths))
    return min(sums)


def fill(weighing, spans, rows):
    """Bring the row of two spans, and of all that they go by, into the rows."""
    if is_empty(spans) or spans in rows:
        return
    for cost, inner in choices_of(weighing, spans):
        for pair in inner:
            fill(weighing, pair, rows)
    rows[spans] = least_by(weighing, spans, rows)


def told_rows(weighing):
    """The worths of the told table, by their spans."""
    rows = {}
    fill(weighing, weighing.below_tops(), rows)
    return rows


def table_of(one, other, costs):
    """The told table of two trees."""
    rows = told_rows(weighed(one, other, costs))
    return tuple([spans + (rows[spans],) for spans in sorted(list(rows))])


def cost_between(one, other, costs):
    """The least cost of all matchings of two trees."""
    weighing = weighed(one, other, costs)
    whole = weighing.below_tops()
    return worth_in(weighing, whole, told_rows(weighing)) + weighing.naming(whole[1], whole[3])


def right_table(one, other, costs, thing):
    """Whether a thing is a right table of two trees by costs."""
    weighing = weighed(one, other, costs)
    if not isinstance(thing, tuple) or not is_rising(weighing, thing):
        return False
    rows = {row[:4]: row[4] for row in thing}
    for spans in rows:
        if least_by(weighing, spans, rows) != rows[spans]:
            return False
    return is_empty(weighing.below_tops()) or weighing.below_tops() in rows


def is_rising(weighing, thing):
    """Whether the things of a tuple are rows of a table, each above the one ahead of it."""
    last = ()
    for row in thing:
        if not is_row(weighing, row) or row[:4] <= last:
            return False
        last = row[:4]
    return True


def is_row(weighing, thing):
    """Whether a thing is a row of two spans that aren't empty, with whatever number as their worth."""
    if not isinstance(thing, tuple) or len(thing) != 5 or not all([is_count(number) for number in thing]):
        return False
    return is_full_span(weighing.one, thing[0], thing[1]) and is_full_span(weighing.other, thing[2], thing[3])


def is_full_span(labels, first, behind):
    """Whether two numbers are a span that isn't empty, of the tree with these labels."""
    if not first < behind <= len(labels):
        return False
    return min([low for tag, low in labels[first:behind]]) >= first
