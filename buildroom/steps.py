"""What builders are passed: books, aims, ways and steps, and the checks of these."""

from buildroom.books import Book, made_paths
from buildroom.counts import are_ascending, is_from_to
from buildroom.errors import BadAims, BadBooks, BadWay
from buildroom.paths import is_path, is_text

MOST_BOOKS = 3
MOST_CUT = 20
WAYS = ("always", "moments", "records", "whole")

# What stands behind the word of a step; a file is a path that no book makes, a made one is one that some book makes.
STEP_FORMS = {
    "write": ("file", "text"),
    "back": ("file", "text"),
    "drop": ("file",),
    "touch": ("file",),
    "spoil": ("made", "text"),
    "lose": ("made",),
    "forget": ("made",),
    "swap": ("book",),
    "build": (),
    "cut": ("run",),
}


def is_step(value, books):
    """Whether any value is a step of these books."""
    if not has_step_form(value, len(books)):
        return False
    made = [path for book in books for path in made_paths(book)]
    return all([(thing in made) == (form == "made") for form, thing in step_paths(value)])


def has_step_form(value, many):
    """Whether any value is a step of so many books, whatever these make."""
    if not isinstance(value, tuple) or len(value) == 0:
        return False
    word, things = value[0], value[1:]
    if not isinstance(word, str) or word not in STEP_FORMS or len(things) != len(STEP_FORMS[word]):
        return False
    return all([fits_step(form, thing, many) for form, thing in zip(STEP_FORMS[word], things)])


def fits_step(form, value, many):
    """Whether any value has one of the forms that stand behind the word of a step."""
    if form == "text":
        return is_text(value)
    if form == "book":
        return is_from_to(value, 0, many - 1)
    if form == "run":
        return is_from_to(value, 0, MOST_CUT)
    return is_path(value)


def step_paths(step):
    """The pairs of the form and the path, one at most, that stand in a step."""
    return [(form, thing) for form, thing in zip(STEP_FORMS[step[0]], step[1:]) if form in ("file", "made")]


def are_aims(value, books):
    """Whether any value is an ascending tuple of unlike paths, each made by all books."""
    tables = [made_paths(book) for book in books]
    if not isinstance(value, tuple) or not all([thing in paths for thing in value for paths in tables]):
        return False
    return are_ascending(value)


def check_books(value):
    """Raise an error for any value that is no tuple of books."""
    if not isinstance(value, tuple) or not 1 <= len(value) <= MOST_BOOKS:
        raise BadBooks(None)
    for index, thing in enumerate(value):
        if not isinstance(thing, Book):
            raise BadBooks(index)


def check_aims(value, books):
    """Raise an error for any value that is no aims of these books."""
    if not are_aims(value, books):
        raise BadAims()


def check_way(value):
    """Raise an error for any value that is no way to tell old from new."""
    if value not in WAYS:
        raise BadWay()
