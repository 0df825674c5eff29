"""Ties: rows of items that are kept even, so that each deed on them makes few new ones."""

from treelore.errors import NoItem, NoTie
from treelore.knits import all_in, both_of, built, halves, is_balance, many_in, nth, with_item, without_item
from treelore.trees import is_count, is_number

TIED = 1000
FIELDS = 8


def is_value(thing):
    """Whether a thing is a number or a text."""
    return isinstance(thing, str) or (isinstance(thing, int) and not isinstance(thing, bool))


def is_item(thing):
    """Whether a thing is an item of a tie."""
    if isinstance(thing, tuple):
        return len(thing) <= FIELDS and all([is_value(field) for field in thing])
    return is_value(thing)


def is_even(thing):
    """Whether a thing is an even tie of at most TIED items."""
    return room_behind_tie(thing, TIED) is not None


def room_behind_tie(thing, room):
    """How many more items there is room for behind those of an even tie, None where the thing is none or too great.

    One item is taken from the room for each tie that is looked at, so a
    thing that says the same part very often is left when the room is used up.
    """
    if thing is None:
        return room
    if room == 0 or not has_tie_form(thing):
        return None
    middle = room_behind_tie(thing[0], room - 1)
    if middle is None:
        return None
    behind = room_behind_tie(thing[2], middle)
    if behind is None or thing[3] != room - behind or not is_balance(room - 1 - middle, middle - behind):
        return None
    return behind


def has_tie_form(thing):
    """Whether a thing is a tuple of a tie's length with an item and a count, whatever stands left and right."""
    return isinstance(thing, tuple) and len(thing) == 4 and is_item(thing[1]) and is_count(thing[3])


def check_tie(thing):
    """Refuse what is no even tie."""
    if not is_even(thing):
        raise NoTie()


def check_seat(at, behind):
    """Refuse what is no number below behind."""
    if not is_number(at, behind - 1):
        raise NoItem(at)


def tied(items):
    """An even tie of a list or tuple of items."""
    if not isinstance(items, (list, tuple)) or len(items) > TIED:
        raise NoTie()
    if not all([is_item(item) for item in items]):
        raise NoTie()
    return built(items)


def items_of(tie):
    """The list of a tie's items."""
    check_tie(tie)
    return all_in(tie)


def item_at(tie, at):
    """The at-th item."""
    check_tie(tie)
    check_seat(at, many_in(tie))
    return nth(tie, at)


def put_at(tie, at, item):
    """The tie with an item more, the at-th."""
    check_tie(tie)
    check_seat(at, many_in(tie) + 1)
    if not is_item(item) or many_in(tie) == TIED:
        raise NoTie()
    return with_item(tie, at, item)


def out_at(tie, at):
    """The tie without its at-th item."""
    check_tie(tie)
    check_seat(at, many_in(tie))
    return without_item(tie, at)


def parted(tie, at):
    """The tie of the first at items, and that of the others."""
    check_tie(tie)
    check_seat(at, many_in(tie) + 1)
    return halves(tie, at)


def tied_both(one, other):
    """The tie of the items of one, and behind them those of the other."""
    check_tie(one)
    check_tie(other)
    if many_in(one) + many_in(other) > TIED:
        raise NoTie()
    return both_of(one, other)


def steps_of(many):
    """No way down an even tie of so many items passes more ties than this."""
    steps = 1
    weight = many + 1
    while weight >= 2:
        weight = weight * 3 // 4
        steps += 1
    return steps


def fresh(tie, some):
    """How many ties within a tie, itself too, stand in none of some ties."""
    check_tie(tie)
    if not isinstance(some, list):
        raise NoTie()
    for one in some:
        check_tie(one)
    numbers = {}
    for one in some:
        number_within(one, numbers)
    known = len(numbers)
    number_within(tie, numbers)
    return len(numbers) - known


def number_within(tie, numbers):
    """The number of a tie, 0 of the empty one; those that are the same have the same.

    A tie's key has the numbers of its left and right, not these themselves:
    so keys stay small, however deep the tie is.
    """
    if tie is None:
        return 0
    key = (number_within(tie[0], numbers), tie[1], number_within(tie[2], numbers))
    if key not in numbers:
        numbers[key] = len(numbers) + 1
    return numbers[key]
