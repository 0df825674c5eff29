"""Texts of paths, numbers and deeds, and these read back."""

from treelore.deeds import FORMS, is_deed
from treelore.errors import NoCount, NoDeed, NoPath, TreeError
from treelore.sending import text_of, tree_in
from treelore.trees import check_path, is_path

# Numbers that are handed in have no more figures; Python itself reads no endless ones.
FIGURES = 60


def number_of_text(text):
    """The number that has this text, in figures without noughts ahead."""
    if not 1 <= len(text) <= FIGURES:
        raise NoCount("text")
    if not all(["0" <= sign <= "9" for sign in text]) or (text[0] == "0" and text != "0"):
        raise NoCount("text")
    return int(text)


def path_text(path):
    """The text of a path."""
    check_path(path)
    return "/" + "/".join([str(step) for step in path])


def path_of_text(text):
    """The path that has this text."""
    if not isinstance(text, str) or not text.startswith("/"):
        raise NoPath()
    steps = text[1:].split("/") if text != "/" else []
    try:
        path = tuple([number_of_text(step) for step in steps])
    except NoCount:
        raise NoPath() from None
    if not is_path(path):
        raise NoPath()
    return path


def deed_text(deed):
    """The text of a deed."""
    if not is_deed(deed):
        raise NoDeed()
    words = [deed[0]]
    for form, field in zip(FORMS[deed[0]], deed[1:]):
        words.append(field_text(form, field))
    return " ".join(words)


def field_text(form, field):
    """The text of what stands in a deed, as the form says."""
    if form == "path":
        return path_text(field)
    if form == "tree":
        return text_of(field)
    return str(field)


def deed_of_text(text):
    """The deed that has this text."""
    if not isinstance(text, str):
        raise NoDeed()
    words = text.split(" ")
    if words[0] not in FORMS or len(words) != 1 + len(FORMS[words[0]]):
        raise NoDeed()
    try:
        fields = [field_of_text(form, word) for form, word in zip(FORMS[words[0]], words[1:])]
    except TreeError:
        raise NoDeed() from None
    deed = (words[0],) + tuple(fields)
    if not is_deed(deed):
        raise NoDeed()
    return deed


def field_of_text(form, text):
    """What stands in a deed, as the form says, read back from its text."""
    if form == "path":
        return path_of_text(text)
    if form == "tree":
        return tree_in(text)
    if form == "number":
        return number_of_text(text)
    return text
