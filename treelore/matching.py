"""Matchings of two trees: what they are, what they cost, and those that cost least."""

from treelore.costs import choices_of, is_costs, is_empty, told_rows, weighed, worth_in
from treelore.errors import NoCosts, NoMatching
from treelore.steps import is_within
from treelore.trees import check_tree, count_places, is_path, part_at
from treelore.walks import paths_behind


def is_matching(one, other, thing):
    """Whether a thing is a matching of two trees."""
    check_tree(one)
    check_tree(other)
    # A matching has no more pairs than a tree has places: of more, none is looked at.
    if not isinstance(thing, tuple) or not 1 <= len(thing) <= count_places(one):
        return False
    if not all([is_pair(one, other, pair) for pair in thing]) or thing[0] != ((), ()):
        return False
    for at, pair in enumerate(thing):
        if not all([is_in_step(pair, later) for later in thing[at + 1:]]):
            return False
    return True


def is_pair(one, other, thing):
    """Whether a thing is a pair of a place of the one tree and a place of the other."""
    if not isinstance(thing, tuple) or len(thing) != 2:
        return False
    return is_place(one, thing[0]) and is_place(other, thing[1])


def is_place(tree, thing):
    """Whether a thing is a place of a tree."""
    return is_path(thing) and part_at(tree, thing) is not None


def is_in_step(pair, later):
    """Whether a pair comes ahead of a later one in both trees, and has it beneath itself in both or in neither."""
    path, place = pair
    later_path, later_place = later
    if path >= later_path or place >= later_place:
        return False
    return is_within(later_path, path) == is_within(later_place, place)


def is_top(one, other, thing):
    """Whether a thing is a top matching of two trees: right above each pair but the first there is another one."""
    if not is_matching(one, other, thing):
        return False
    return all([(path[:-1], place[:-1]) in thing for path, place in thing[1:]])


def check_matching(one, other, matching):
    """Refuse what is no tree, then what is no matching."""
    if not is_matching(one, other, matching):
        raise NoMatching("matching")


def cost_of(one, other, costs, matching):
    """What a matching costs."""
    check_tree(one)
    check_tree(other)
    if not is_costs(costs):
        raise NoCosts("costs")
    check_matching(one, other, matching)
    name, out, into = costs
    unpaired, others_unpaired = count_places(one) - len(matching), count_places(other) - len(matching)
    return name * len(unlike_pairs(one, other, matching)) + out * unpaired + into * others_unpaired


def unlike_pairs(one, other, matching):
    """Those pairs of a matching whose tags are unlike."""
    return [(path, place) for path, place in matching if part_at(one, path)[0] != part_at(other, place)[0]]


def least_matching(one, other, costs):
    """The told matching: one of least cost."""
    weighing = weighed(one, other, costs)
    numbers = pairs_by(weighing, weighing.below_tops(), told_rows(weighing))
    paths, places = paths_behind(one, ()), paths_behind(other, ())
    return tuple(sorted([((), ())] + [(paths[number], places[pair]) for number, pair in numbers]))


def pairs_by(weighing, spans, rows):
    """The pairs of numbers by which two spans come to their worth."""
    if is_empty(spans):
        return []
    # The pair of both lasts comes first of what costs alike: that keeps what can be kept.
    for cost, inner in reversed(choices_of(weighing, spans)):
        if cost + sum([worth_in(weighing, pair, rows) for pair in inner]) == rows[spans]:
            break
    pairs = [(spans[1] - 1, spans[3] - 1)] if len(inner) == 2 else []
    for pair in inner:
        pairs.extend(pairs_by(weighing, pair, rows))
    return pairs


def top_matching(one, other):
    """The told top matching: a top one that costs least where all costs are 1."""
    check_tree(one)
    check_tree(other)
    return tuple(sorted(paired(one, other, (), ())[1]))


def paired(part, like, path, place):
    """The least cost at which two parts, at path and place, are a pair, and the pairs by which it is so."""
    cost, pairs = lined_up(part[1], like[1], path, place)
    if part[0] != like[0]:
        cost += 1
    return (cost, [(path, place)] + pairs)


def lined_up(kids, likes, path, place):
    """The least cost at which some of the kids of path are pairs with some of place's, and those pairs.

    row has it of the kids so far and of the first few of the other ones,
    from none of them on to all.
    """
    row = [(sum([count_places(like) for like in likes[:many]]), []) for many in range(len(likes) + 1)]
    for at, kid in enumerate(kids):
        elder = row
        row = [with_cost(elder[0], kid)]
        for number, like in enumerate(likes):
            cost, pairs = paired(kid, like, path + (at,), place + (number,))
            both = (elder[number][0] + cost, elder[number][1] + pairs)
            choices = [both, with_cost(elder[number + 1], kid), with_cost(row[number], like)]
            row.append(min(choices, key=lambda choice: choice[0]))
    return row[-1]


def with_cost(choice, part):
    """A cost and its pairs, with a part more that is in no pair."""
    return (choice[0] + count_places(part), choice[1])
