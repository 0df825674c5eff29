"""Whether a thing that somebody handed in is a told value, kinds and all."""


def is_same(thing, told):
    """Whether a thing is the very value told, which is made of tuples and numbers.

    Python's own == takes a truth for a number. No more of the thing is
    looked at than the told value has.
    """
    if isinstance(told, int):
        return isinstance(thing, int) and not isinstance(thing, bool) and thing == told
    if not isinstance(thing, tuple) or len(thing) != len(told):
        return False
    for inner, wanted in zip(thing, told):
        if not is_same(inner, wanted):
            return False
    return True
