"""Rules, and books of them: which paths are made, and which ones a rule tells to look at."""

from buildroom.errors import BadBook, BadMade, BadRules
from buildroom.paths import in_the_way, is_folder, is_path, is_text

MOST_RULES = 8
MOST_JOINED = 4
LONGEST_WORD = 8

# What stands behind the kind in a rule.
FORMS = {
    "join": ("paths",),
    "size": ("path",),
    "sort": ("path",),
    "pick": ("path", "word"),
    "names": ("folder",),
    "use": ("path",),
    "choose": ("path", "path", "path"),
    "need": ("path", "word"),
}


class Book:
    """A tuple of rules, no made path of which stands in the way of another one."""

    def __init__(self, rules):
        check_rules(rules)
        self._rules = rules

    @property
    def rules(self):
        """The tuple of the rules."""
        return self._rules

    def __len__(self):
        return len(self._rules)

    def __eq__(self, other):
        return isinstance(other, Book) and self._rules == other._rules


def made_paths(book):
    """The paths that the book makes, ascending."""
    check_book(book)
    return sorted([rule[0] for rule in book.rules])


def told_ring(book):
    """The least of the shortest told rings, None if there is none."""
    check_book(book)
    told = told_made(book)
    # The rows of one length ascend, so the first one that closes is the least of the shortest.
    rows = [(made,) for made in told]
    while rows:
        for row in rows:
            if row[0] in told[row[-1]]:
                return row
        rows = [row + (path,) for row in rows for path in told[row[-1]] if path not in row]
    return None


def right_ring(book, value):
    """Whether any value is a told ring."""
    check_book(book)
    told = told_made(book)
    if not are_unlike_keys(value, told) or value == ():
        return False
    return all([path in told[made] for made, path in zip(value, value[1:] + value[:1])])


def told_order(book):
    """The least order in which each made path stands behind those that its rule tells; None if there is none."""
    check_book(book)
    order = least_order(told_made(book))
    return None if order is None else tuple(order)


def right_order(book, value):
    """Whether any value is an order in which each made path stands behind those that its rule tells."""
    check_book(book)
    told = told_made(book)
    if not are_unlike_keys(value, told) or len(value) != len(told):
        return False
    return all([path in value[:place] for place, made in enumerate(value) for path in told[made]])


def depths(book):
    """For each made path, ascending, how many follow one another from it; None if there is a told ring."""
    order = told_order(book)
    if order is None:
        return None
    told = told_made(book)
    depth = {}
    for made in order:
        depth[made] = 1 + max([depth[path] for path in told[made]], default=0)
    return [depth[made] for made in told]


def least_order(needed):
    """The least order of the keys of a table in which each stands behind those in its row; None if there is none."""
    order = []
    while len(order) < len(needed):
        left = [key for key in sorted(needed) if key not in order]
        ready = [key for key in left if not any([other in left for other in needed[key]])]
        if not ready:
            return None
        order.append(ready[0])
    return order


def told_paths(rule):
    """The paths that a rule tells to look at, as they stand in it."""
    told = []
    for form, thing in zip(FORMS[rule[1]], rule[2:]):
        if form == "path":
            told.append(thing)
        if form == "paths":
            told.extend(thing)
    return told


def rule_table(book):
    """A dict, ascending: for each made path its rule."""
    return {rule[0]: rule for rule in sorted(book.rules)}


def told_made(book):
    """A dict, ascending: for each made path the made paths, ascending, that its rule tells to look at."""
    rules = rule_table(book)
    return {made: sorted({path for path in told_paths(rule) if path in rules}) for made, rule in rules.items()}


def are_unlike_keys(value, table):
    """Whether any value is a tuple of keys of a table of strings, each at most once."""
    if not isinstance(value, tuple):
        return False
    return all([isinstance(thing, str) and thing in table for thing in value]) and len(set(value)) == len(value)


def is_word(value):
    """Whether any value is a word."""
    return is_text(value) and 1 <= len(value) <= LONGEST_WORD and "\n" not in value


def fits(form, value):
    """Whether any value has one of the forms that stand behind a kind."""
    if form == "path":
        return is_path(value)
    if form == "word":
        return is_word(value)
    if form == "folder":
        return is_folder(value)
    return isinstance(value, tuple) and len(value) <= MOST_JOINED and all([is_path(thing) for thing in value])


def is_rule(value):
    """Whether any value is a rule."""
    if not isinstance(value, tuple) or len(value) < 2 or not is_path(value[0]):
        return False
    kind, things = value[1], value[2:]
    if not isinstance(kind, str) or kind not in FORMS or len(things) != len(FORMS[kind]):
        return False
    return all([fits(form, thing) for form, thing in zip(FORMS[kind], things)])


def check_rules(value):
    """Raise an error for any value that is no tuple of rules of one book."""
    if not isinstance(value, tuple) or len(value) > MOST_RULES:
        raise BadRules(None)
    for index, thing in enumerate(value):
        if not is_rule(thing) or any([in_the_way(thing[0], rule[0]) for rule in value[:index]]):
            raise BadRules(index)


def check_book(value):
    """Raise an error for any value that is no book."""
    if not isinstance(value, Book):
        raise BadBook()


def check_made(book, value):
    """Raise an error for any value that is no made path of a book."""
    if value not in made_paths(book):
        raise BadMade()
