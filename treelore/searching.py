"""The search for readings of a pattern: of each of its own patterns the places that are left for it."""

from treelore.ground import numbers_in, test_rows


class Search:
    """A pattern's own patterns, numbered in order, over a ground.

    sets has where the test of each holds; links has for each but the first
    its number, that of the one that needs it, and the way; marked has the
    numbers of those with a mark.
    """

    def __init__(self, ground, pattern):
        self.ground = ground
        self.sets = []
        self.links = []
        self.marked = []
        self.take_in(pattern)

    def take_in(self, pattern):
        """Number a pattern and its own ones, in order."""
        mark, test, needs = pattern
        number = len(self.sets)
        self.sets.append(test_rows(self.ground, test)[0])
        if mark != "":
            self.marked.append(number)
        for way, need in needs:
            # The need's number is the next one that is given.
            self.links.append((len(self.sets), number, way))
            self.take_in(need)


def fitting_sets(search, sets):
    """Of each own pattern the places where it fits, where the tests hold at these sets alone."""
    ground = search.ground
    fits = list(sets)
    # Each pattern's number is below those of its needs: so these are done ahead of it.
    for number, above, way in reversed(search.links):
        fits[above] &= ground.leading_to(way, fits[number])
    return fits


def reading_sets(search, sets):
    """Of each own pattern the places at which it stands in some reading, where the tests hold at these sets alone."""
    ground = search.ground
    places = fitting_sets(search, sets)
    for number, above, way in search.links:
        places[number] &= ground.led_from(way, places[above])
    return places


def told_answers(search, sets, marked):
    """The list of what readings tell of the marked ones, rising, where the tests hold at these sets alone.

    Each place of the first marked one is held fast by itself, and the
    others are asked then; of the last all places are told at once.
    """
    places = reading_sets(search, sets)
    if len(marked) == 0:
        return [()] if places[0] != 0 else []
    first = marked[0]
    paths = search.ground.paths
    if len(marked) == 1:
        return [(paths[number],) for number in numbers_in(places[first])]
    told = []
    for number in numbers_in(places[first]):
        held = list(sets)
        held[first] = 1 << number
        told.extend([(paths[number],) + rest for rest in told_answers(search, held, marked[1:])])
    return told


def first_reading(search, fits):
    """A reading, as the list of its places' numbers, by the sets where the own patterns fit: the first isn't empty."""
    numbers = [numbers_in(fits[0])[0]]
    for number, above, way in search.links:
        there = search.ground.reach(way)[numbers[above]]
        numbers.append(numbers_in(fits[number] & there)[0])
    return numbers


def manys_of(search):
    """Of each own pattern a dict: by the number of each place where it fits, how many readings it has from there on."""
    fits = fitting_sets(search, search.sets)
    manys = [{number: 1 for number in numbers_in(places)} for places in fits]
    for number, above, way in reversed(search.links):
        there = search.ground.reach(way)
        below = manys[number]
        manys[above] = {place: many * sum([below[other] for other in numbers_in(there[place] & fits[number])])
                        for place, many in manys[above].items()}
    return manys


def is_reading_of(search, numbers):
    """Whether as many places as there are own patterns, by their numbers, are a reading."""
    for places, number in zip(search.sets, numbers):
        if places >> number & 1 == 0:
            return False
    for number, above, way in search.links:
        if search.ground.reach(way)[numbers[above]] >> numbers[number] & 1 == 0:
            return False
    return True
