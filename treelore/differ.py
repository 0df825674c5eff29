"""Differences of two trees: the deeds that lead the one into the other."""

from treelore.costs import is_costs
from treelore.deeds import is_deed
from treelore.errors import NoCosts, NoDeed
from treelore.matching import check_matching, least_matching, unlike_pairs
from treelore.steps import is_within
from treelore.trees import part_at, paths_from

EVEN = (1, 1, 1)


def deeds_of(one, other, matching):
    """The deeds of a matching: names, then unwraps, then wraps."""
    check_matching(one, other, matching)
    names = [("name", path, part_at(other, place)[0]) for path, place in unlike_pairs(one, other, matching)]
    paths = {path: True for path, place in matching}
    places = {place: True for path, place in matching}
    unwraps = [("unwrap", path) for path in paths_from(one, ()) if path not in paths]
    wraps = [wrap_for(other, place, places) for place in paths_from(other, ()) if place not in places]
    # The last place goes first: so the paths of those ahead of it stay what they are in the first tree.
    return tuple(names + unwraps[::-1] + wraps)


def wrap_for(tree, place, kept):
    """The wrap that brings a place of a tree, when all kept ones and those ahead of it are there."""
    many = len([path for path in kept if stands_next(path, place, kept)])
    return ("wrap", place[:-1], place[-1], many, part_at(tree, place)[0])


def stands_next(path, place, kept):
    """Whether a kept path is beneath a place that is not kept, with no kept one between."""
    if not is_within(path, place):
        return False
    return not any([path[:length] in kept for length in range(len(place) + 1, len(path))])


def difference(one, other, *, costs=EVEN):
    """The deeds of the told matching of least cost."""
    return deeds_of(one, other, least_matching(one, other, costs))


def cost_of_deeds(costs, deeds):
    """What a tuple of names, unwraps and wraps costs."""
    if not is_costs(costs):
        raise NoCosts("costs")
    if not isinstance(deeds, tuple):
        raise NoDeed()
    prices = {"name": costs[0], "unwrap": costs[1], "wrap": costs[2]}
    total = 0
    for deed in deeds:
        if not is_deed(deed) or deed[0] not in prices:
            raise NoDeed()
        total += prices[deed[0]]
    return total
