"""What edits of files change, by the rules alone or in a clean build; and paths that are renamed everywhere."""

from itertools import combinations

from buildroom.benches import Bench
from buildroom.books import FORMS, Book, check_book, check_made, made_paths, told_made, told_paths
from buildroom.errors import Absent, BadAims, BadEdits, BadPath, BadWords, Clash
from buildroom.looks import LONGEST_MADE
from buildroom.paths import ascending_pairs, check_path, check_tree, has_signs, in_the_way, lies_within
from buildroom.running import CleanBuild, clean
from buildroom.steps import is_step

MOST_EDITS = 8


def edited_tree(book, tree, edits):
    """The tree behind some edits."""
    check_edits(book, tree, edits)
    return tree_behind(book, tree, edits)


def changed(book, tree, edits):
    """The made paths, ascending, whose outcomes are others behind some edits."""
    check_edits(book, tree, edits)
    now, then = clean(book, tree), clean(book, tree_behind(book, tree, edits))
    return [one[0] for one, other in zip(now, then) if one != other]


def touched(book, tree, path):
    """The made paths, ascending, that a path which is not made touches in a clean build."""
    check_book(book)
    check_tree(tree)
    check_unmade(book, path)
    build = CleanBuild(book, tree)
    first = [made for made in build.table if any([shows(place, path) for place in build.places_come_to(made)])]
    return reached(first, askers(build.made_come_to()))


def may_touch(book, path):
    """The made paths, ascending, that a path which is not made may touch by the rules alone."""
    check_book(book)
    check_unmade(book, path)
    first = [rule[0] for rule in book.rules if may_look_at(rule, path)]
    return reached(first, askers(told_made(book)))


def fewest_edits(book, tree, edits, made, text):
    """All tuples of numbers of edits, ascending, of as few as can be, behind which a made path has this text."""
    check_edits(book, tree, edits)
    check_made(book, made)
    if not has_signs(text, LONGEST_MADE):
        raise BadWords()
    for many in range(len(edits) + 1):
        found = [row for row in combinations(range(len(edits)), many) if makes(book, tree, edits, row, made, text)]
        if found:
            return found
    return []


def moved(book, tree, old, new):
    """The book and the tree in which the path new stands wherever old stood."""
    check_moved(book, tree, old, new)
    rules = tuple([moved_rule(rule, old, new) for rule in book.rules])
    return (Book(rules), ascending_pairs({renamed(path, old, new): text for path, text in tree}))


def same_moved(book, tree, old, new):
    """Whether each outcome is the same if the path new stands wherever old stood."""
    book_then, tree_then = moved(book, tree, old, new)
    now, then = dict(clean(book, tree)), dict(clean(book_then, tree_then))
    return all([then[renamed(made, old, new)] == moved_outcome(now[made], old, new) for made in now])


def needed(book, tree, aims):
    """The made paths, ascending, that a clean build of these alone runs, which is asked for some of them."""
    check_book(book)
    check_tree(tree)
    check_asked(book, aims)
    return reached(aims, CleanBuild(book, tree).made_come_to())


def tree_behind(book, tree, edits):
    """The tree behind some edits; those that cannot be done change nothing."""
    bench = Bench((book,), tree, (), "always")
    for edit in edits:
        bench.do(edit)
    return ascending_pairs(bench.sources)


def makes(book, tree, edits, row, made, text):
    """Whether the outcome of a made path is this text behind the edits with the numbers of a row."""
    tree_then = tree_behind(book, tree, [edits[number] for number in row])
    return CleanBuild(book, tree_then).outcome_at(made) == ("text", text)


def reached(first, nexts):
    """All keys of a table, ascending, that one comes to from the first ones, these too, by what stands there."""
    found, waiting = {}, list(first)
    while waiting:
        key = waiting.pop()
        if key not in found:
            found[key] = True
            waiting.extend(nexts[key])
    return sorted(found)


def askers(asked):
    """For each key of a table the keys in whose rows it stands."""
    return {key: [other for other in asked if key in asked[other]] for key in asked}


def shows(place, path):
    """Whether a look at a place may see another thing if the file at a path is edited."""
    word, where = place
    return where == path if word == "path" else lies_within(path, where)


def may_look_at(rule, path):
    """Whether a rule, by itself, may look at a path, or at a folder in which it lies."""
    if rule[1] == "names":
        return lies_within(path, rule[2])
    return rule[1] == "use" or path in told_paths(rule)


def renamed(path, old, new):
    """The path, but the new one for the old one."""
    return new if path == old else path


def moved_rule(rule, old, new):
    """The rule with the new path wherever it makes or tells the old one."""
    things = [moved_thing(form, thing, old, new) for form, thing in zip(FORMS[rule[1]], rule[2:])]
    return (renamed(rule[0], old, new), rule[1]) + tuple(things)


def moved_thing(form, thing, old, new):
    """What stands behind the kind of a rule in one of the forms, with the new path for the old one."""
    if form == "paths":
        return tuple([renamed(path, old, new) for path in thing])
    return renamed(thing, old, new) if form == "path" else thing


def moved_outcome(outcome, old, new):
    """The outcome with the new path for the old one; the words of a text stay."""
    if outcome[0] in ("missing", "stopped"):
        return (outcome[0], renamed(outcome[1], old, new))
    return outcome


def is_edit(value, book):
    """Whether any value is an edit of a path that the book does not make."""
    return is_step(value, (book,)) and value[0] in ("write", "drop")


def check_edits(book, tree, value):
    """Raise an error for wrong values of a book, of a tree, and of a tuple of edits."""
    check_book(book)
    check_tree(tree)
    if not isinstance(value, tuple) or len(value) > MOST_EDITS:
        raise BadEdits(None)
    for index, thing in enumerate(value):
        if not is_edit(thing, book):
            raise BadEdits(index)


def check_unmade(book, value):
    """Raise an error for any value that is no path, or that the book makes."""
    check_path(value)
    if value in made_paths(book):
        raise BadPath()


def check_asked(book, value):
    """Raise an error for any value that is no tuple of made paths."""
    if not isinstance(value, tuple) or not all([thing in made_paths(book) for thing in value]):
        raise BadAims()


def check_moved(book, tree, old, new):
    """Raise an error for wrong values of a book, a tree, and two paths, one of which is to stand for the other one."""
    check_book(book)
    check_tree(tree)
    check_path(old)
    check_path(new)
    there = [path for path, _ in tree] + made_paths(book)
    if old not in there:
        raise Absent()
    if any([in_the_way(new, path) for path in there if path != old]):
        raise Clash()
    if new != old and any([new in told_paths(rule) for rule in book.rules]):
        raise Clash()
