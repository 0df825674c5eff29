"""Trees asked by patterns: where tests hold and patterns fit, readings, answers, and the judges of tables."""

from treelore.errors import NoAnswer
from treelore.ground import Ground, fit_rows, test_rows
from treelore.patterns import check_pattern, check_test
from treelore.sameness import is_same
from treelore.searching import Search, first_reading, fitting_sets, is_reading_of, manys_of, told_answers
from treelore.trees import check_place, check_tree, is_path


def test_holds(tree, test, path):
    """Whether a test holds at a place."""
    check_tree(tree)
    check_test(test)
    check_place(tree, path)
    return path in where_held(Ground(tree), test)


def where_held(ground, test):
    """The paths of the places where a test holds."""
    return ground.paths_of(test_rows(ground, test)[0])


def check_asked(tree, pattern):
    """Refuse what is no tree, then what is no pattern."""
    check_tree(tree)
    check_pattern(pattern)


def fits_table(tree, pattern):
    """The right fits table: of all patterns of a pattern the places where they fit."""
    check_asked(tree, pattern)
    ground = Ground(tree)
    return tuple([tuple(ground.paths_of(places)) for places in fit_rows(ground, pattern)])


def right_fits(tree, pattern, thing):
    """Whether a thing is the right fits table; there is just one."""
    return is_same(thing, fits_table(tree, pattern))


def fits(tree, pattern, path):
    """Whether a pattern fits at a place."""
    check_asked(tree, pattern)
    check_place(tree, path)
    return path in fits_table(tree, pattern)[0]


def search_in(tree, pattern):
    """The search for a pattern in a tree."""
    check_asked(tree, pattern)
    return Search(Ground(tree), pattern)


def is_reading(tree, pattern, thing):
    """Whether a thing is a reading of a pattern."""
    search = search_in(tree, pattern)
    numbers = search.ground.numbers
    if not isinstance(thing, tuple) or len(thing) != len(search.sets):
        return False
    for path in thing:
        if not is_path(path) or path not in numbers:
            return False
    return is_reading_of(search, [numbers[path] for path in thing])


def count_table(tree, pattern):
    """The right count table: of a pattern's own ones, where they fit, and how many readings there are from there on."""
    search = search_in(tree, pattern)
    paths = search.ground.paths
    return tuple([tuple([(paths[number], many) for number, many in row.items()]) for row in manys_of(search)])


def right_counts_of(tree, pattern, thing):
    """Whether a thing is the right count table; there is just one."""
    return is_same(thing, count_table(tree, pattern))


def readings(tree, pattern):
    """How many readings there are."""
    return sum([many for path, many in count_table(tree, pattern)[0]])


def answers(tree, pattern, *, within=()):
    """The answers of the readings that begin at a place or beneath it, rising."""
    search = search_in(tree, pattern)
    check_place(tree, within)
    sets = list(search.sets)
    sets[0] &= search.ground.set_within(within)
    return tuple(told_answers(search, sets, search.marked))


def check_answer(search, thing):
    """Refuse what is no tuple of as many paths as there are marks."""
    if not isinstance(thing, tuple) or len(thing) != len(search.marked):
        raise NoAnswer("answer")
    if not all([is_path(path) for path in thing]):
        raise NoAnswer("answer")


def answer_behind(tree, pattern, answer):
    """The least answer above a tuple of as many paths, None where there is none."""
    search = search_in(tree, pattern)
    check_answer(search, answer)
    above = [told for told in told_answers(search, search.sets, search.marked) if told > answer]
    return above[0] if len(above) > 0 else None


def reading_of(tree, pattern, answer):
    """A reading that tells an answer, None where it is none."""
    search = search_in(tree, pattern)
    check_answer(search, answer)
    ground = search.ground
    sets = list(search.sets)
    for number, path in zip(search.marked, answer):
        if path not in ground.numbers:
            return None
        sets[number] &= ground.set_of([path])
    places = fitting_sets(search, sets)
    if places[0] == 0:
        return None
    return tuple([ground.paths[number] for number in first_reading(search, places)])
