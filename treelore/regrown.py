"""Groves read back from their texts, and grown again from their logs."""

from treelore.errors import NoDeed, NoRow, NoText, Stopped, TreeError
from treelore.grove import Grove
from treelore.sending import tree_in

# How many things an entry of a log has, its word too.
LENGTHS = {"begin": 4, "drop": 2, "do": 3, "all": 3, "back": 2, "visit": 3, "left": 3}


def read_grove(text):
    """The grove that has this text."""
    if not isinstance(text, str):
        raise NoText()
    grove = Grove()
    rows = text.split("\n") if len(text) > 0 else []
    last = ""
    for at, row in enumerate(rows):
        words = row.split(" ")
        if len(words) != 3 or words[0] <= last:
            raise NoRow(at)
        last = words[0]
        try:
            grove.begin(last, tree_in(words[2]), words[1])
        except TreeError:
            raise NoRow(at) from None
    return grove


def grown(log):
    """The grove in which all is done that a log tells."""
    if not isinstance(log, list):
        raise Stopped(0)
    grove = Grove()
    for at, entry in enumerate(log):
        if not is_entry(entry):
            raise Stopped(at)
        try:
            do_again(grove, entry)
        except TreeError:
            raise Stopped(at) from None
    return grove


def is_entry(thing):
    """Whether a thing is a tuple of a log's word and as many things as that has."""
    # Only texts are looked up: of another thing a hash may be missing, or take very long.
    if not isinstance(thing, tuple) or len(thing) == 0 or not isinstance(thing[0], str):
        return False
    return thing[0] in LENGTHS and len(thing) == LENGTHS[thing[0]]


def do_again(grove, entry):
    """Do in a grove what an entry of a log tells; visits and lefts have done nothing themselves."""
    word = entry[0]
    if word == "begin":
        grove.begin(entry[1], entry[3], entry[2])
    elif word == "drop":
        grove.drop(entry[1])
    elif word == "do":
        grove.do(entry[1], entry[2])
    elif word == "all":
        if not isinstance(entry[2], tuple):
            raise NoDeed()
        grove.do_all(entry[1], list(entry[2]))
    elif word == "back":
        grove.back(entry[1])
