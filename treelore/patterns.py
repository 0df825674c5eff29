"""Ways, tests and patterns: what they are, and which patterns stand within one."""

from treelore.errors import NoPattern, NoTest, NoWay
from treelore.trees import SIZE, check_place, check_tree, is_number, is_tag, part_at, paths_from

WAYS = ("kid", "beneath", "next", "later", "above", "over")
PATTERNS = 8
TESTS = 16
MARKS = 2

# What stands behind each word of a test, in order.
TEST_FORMS = {
    "any": (),
    "tag": ("tag",),
    "starts": ("tag",),
    "kids": ("many", "many"),
    "at": ("step",),
    "not": ("test",),
    "both": ("test", "test"),
    "one": ("test", "test"),
    "lacks": ("way", "pattern"),
}


class Room:
    """How many patterns and tests may still come, and the marks that came: so shared things are left in time."""

    def __init__(self):
        self.patterns = PATTERNS
        self.tests = TESTS
        self.marks = []


def is_test(thing):
    """Whether a thing is a test."""
    return is_test_within(thing, Room())


def is_pattern(thing):
    """Whether a thing is a pattern."""
    return is_pattern_within(thing, Room(), MARKS)


def is_way(thing):
    """Whether a thing is a way."""
    return thing in WAYS


def is_test_within(thing, room):
    """Whether a thing is a test for which there is room."""
    if room.tests == 0 or not has_test_word(thing):
        return False
    room.tests -= 1
    for form, field in zip(TEST_FORMS[thing[0]], thing[1:]):
        if not is_of_test_form(form, field, room):
            return False
    return thing[0] != "kids" or thing[1] <= thing[2]


def has_test_word(thing):
    """Whether a thing is a tuple of a test's word and as many things as that asks for."""
    # Only texts are looked up: of another thing a hash may be missing, or take very long.
    if not isinstance(thing, tuple) or len(thing) == 0 or not isinstance(thing[0], str):
        return False
    return thing[0] in TEST_FORMS and len(thing) == 1 + len(TEST_FORMS[thing[0]])


def is_of_test_form(form, thing, room):
    """Whether a thing may stand in a test where the form says what stands there."""
    if form == "tag":
        return is_tag(thing)
    if form == "many":
        return is_number(thing, SIZE)
    if form == "step":
        return is_number(thing, SIZE - 1)
    if form == "way":
        return is_way(thing)
    if form == "test":
        return is_test_within(thing, room)
    return is_pattern_within(thing, room, 0)


def is_pattern_within(thing, room, most):
    """Whether a thing is a pattern for which there is room, with at most so many marks in all."""
    if room.patterns == 0 or not isinstance(thing, tuple) or len(thing) != 3:
        return False
    room.patterns -= 1
    if not is_mark_within(thing[0], room, most) or not is_test_within(thing[1], room):
        return False
    if not isinstance(thing[2], tuple):
        return False
    for need in thing[2]:
        if not isinstance(need, tuple) or len(need) != 2 or not is_way(need[0]):
            return False
        if not is_pattern_within(need[1], room, most):
            return False
    return True


def is_mark_within(thing, room, most):
    """Whether a thing is no mark at all, or a new one of at most so many; that one came then."""
    if thing == "":
        return True
    if not is_tag(thing) or thing in room.marks or len(room.marks) >= most:
        return False
    room.marks.append(thing)
    return True


def check_pattern(thing):
    """Refuse what is no pattern."""
    if not is_pattern(thing):
        raise NoPattern("pattern")


def check_test(thing):
    """Refuse what is no test."""
    if not is_test(thing):
        raise NoTest("test")


def own_patterns(pattern):
    """A pattern's own ones: it, then those of its needs."""
    check_pattern(pattern)
    return tuple(own_within(pattern))


def own_within(pattern):
    """The list of a pattern's own ones."""
    found = [pattern]
    for way, need in pattern[2]:
        found.extend(own_within(need))
    return found


def all_patterns(pattern):
    """All patterns of a pattern: it, those within its test, those of its needs."""
    check_pattern(pattern)
    return tuple(all_within(pattern))


def all_within(pattern):
    """The list of all patterns of a pattern."""
    found = [pattern]
    for inner in tests_within(pattern[1]):
        if inner[0] == "lacks":
            found.extend(all_within(inner[2]))
    for way, need in pattern[2]:
        found.extend(all_within(need))
    return found


def tests_within(test):
    """A test and the tests within it, as they are written, but for those of patterns within it."""
    found = [test]
    for form, field in zip(TEST_FORMS[test[0]], test[1:]):
        if form == "test":
            found.extend(tests_within(field))
    return found


def marks_of(pattern):
    """The marks of a pattern's own ones, in order."""
    check_pattern(pattern)
    return tuple([own[0] for own in own_within(pattern) if own[0] != ""])


def is_clear(pattern):
    """Whether nothing outside of a place's part can change where a pattern fits within that."""
    check_pattern(pattern)
    return all([is_clear_alone(one) for one in all_within(pattern)])


def is_clear_alone(pattern):
    """Whether a pattern is clear but for the patterns within it."""
    ways = [way for way, need in pattern[2]]
    for test in tests_within(pattern[1]):
        if test[0] == "at":
            return False
        if test[0] == "lacks":
            ways.append(test[1])
    return all([way in ("kid", "beneath") for way in ways])


def places_by(tree, way, path):
    """The places to which a way leads from a place, rising."""
    check_tree(tree)
    if not is_way(way):
        raise NoWay("way")
    check_place(tree, path)
    return places_along(tree, way, path)


def places_along(tree, way, path):
    """The places to which one of WAYS leads from a place, rising."""
    if way == "kid":
        return [path + (at,) for at in range(len(part_at(tree, path)[1]))]
    if way == "beneath":
        return paths_from(part_at(tree, path), path)[1:]
    if way == "over":
        return [path[:length] for length in range(len(path))]
    # The tree's own place has none above it, and none beside it.
    if path == ():
        return []
    if way == "above":
        return [path[:-1]]
    many = len(part_at(tree, path[:-1])[1])
    later = [path[:-1] + (at,) for at in range(path[-1] + 1, many)]
    return later[:1] if way == "next" else later
