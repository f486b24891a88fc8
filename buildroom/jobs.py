"""The jobs of a build: the plan of what a clean build runs."""

from buildroom.books import check_book, least_order
from buildroom.counts import is_from_to
from buildroom.errors import BadLengths
from buildroom.paths import check_tree
from buildroom.plans import LONGEST_JOB
from buildroom.running import CleanBuild

ROOM_OF_RULE = 1


def plan_of(book, tree, lengths):
    """The paths that a clean build runs, in the least order that goes, and the plan of their jobs in this order."""
    check_book(book)
    check_tree(tree)
    check_lengths(book, lengths)
    build = CleanBuild(book, tree)
    seen = {made: made_in_record(build, made) for made in build.outcomes}
    length_of = {rule[0]: length for rule, length in zip(book.rules, lengths)}
    paths = least_order(seen)
    needs = [tuple(sorted([paths.index(path) for path in seen[made]])) for made in paths]
    return (tuple(paths), tuple([(length_of[made], need, ROOM_OF_RULE) for made, need in zip(paths, needs)]))


def made_in_record(build, made):
    """The made paths, each once, that the record of a made one looks at."""
    looked = [look[1] for look in build.records[made] if look[0] != "names"]
    return sorted({path for path in looked if path in build.table})


def check_lengths(book, value):
    """Raise an error for any value that is no tuple of a length for each rule of the book."""
    if not isinstance(value, tuple) or len(value) != len(book):
        raise BadLengths()
    if not all([is_from_to(thing, 1, LONGEST_JOB) for thing in value]):
        raise BadLengths()
