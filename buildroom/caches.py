"""Stores of what was made: entries that are near, as many as there is room for, and entries that are far."""

from buildroom.books import check_book, is_rule, rule_table
from buildroom.counts import is_from_to
from buildroom.errors import BadEntries, BadKind, BadNumber
from buildroom.looks import outcome_by, text_of
from buildroom.makings import Making
from buildroom.paths import check_tree
from buildroom.records import is_record
from buildroom.steps import check_aims

MOST_ROOM = 20
MOST_ENTRIES = 40
KINDS = ("eldest", "lately")


class Store:
    """Keeps entries of what was made, by which later builds need not run the same again."""

    def __init__(self, room, kind, entries):
        if not is_from_to(room, 0, MOST_ROOM):
            raise BadNumber(room)
        if kind not in KINDS:
            raise BadKind()
        check_entries(entries)
        self._room = room
        self._kind = kind
        self._near = {}
        self._far = {entry: True for entry in entries}

    @property
    def near(self):
        """The tuple of the entries that are near, the one that was laid last at the end."""
        return tuple(self._near)

    @property
    def far(self):
        """The tuple of the entries that are far, the one that was laid last at the end."""
        return tuple(self._far)

    def __len__(self):
        return len(self._far)

    def build(self, book, tree, aims):
        """Build aims, with nothing lying: their texts, what ran, what was found near, and what was found far."""
        check_book(book)
        check_tree(tree)
        check_aims(aims, (book,))
        build = StoreBuild(self, book, tree)
        for aim in aims:
            build.make_aim(aim)
        texts = tuple([build.left.get(aim) for aim in aims])
        return (texts, tuple(build.ran), tuple(build.found_near), tuple(build.found_far))

    def forget(self):
        """Throw all near entries out, and return how many there were."""
        many = len(self._near)
        self._near = {}
        return many

    def copy(self):
        """An independent store that stands as this one."""
        other = Store(self._room, self._kind, ())
        other._near = {entry: True for entry in self._near}
        other._far = {entry: True for entry in self._far}
        return other

    def entries_of(self, rule):
        """The entries of a rule as they are gone through: pairs of whether one is near, and the entry."""
        near = [(True, entry) for entry in self._near if entry[0] == rule]
        return near + [(False, entry) for entry in self._far if entry[0] == rule]

    def note_found(self, is_near, entry):
        """Lay a found entry near, but for a near one in a store that throws the eldest out."""
        if not is_near or self._kind == "lately":
            self.lay_near(entry)

    def note_made(self, entry):
        """Lay a new entry near, then far."""
        self.lay_near(entry)
        self._far[entry] = True

    def lay_near(self, entry):
        """Lay an entry near, behind all others, and throw the first ones out until there is room."""
        self._near.pop(entry, None)
        self._near[entry] = True
        while len(self._near) > self._room:
            del self._near[list(self._near)[0]]


class StoreBuild(Making):
    """One build by a store, with nothing lying at first: each path is found or run."""

    def __init__(self, store, book, tree):
        Making.__init__(self, rule_table(book), dict(tree), {})
        self.store = store
        self.ran = []
        self.found_near = []
        self.found_far = []

    def fill(self, made):
        """Take the text of an entry that sees the same now, or run the rule."""
        for is_near, entry in self.store.entries_of(self.table[made]):
            if self.sees_the_same(entry[1]):
                self.take(is_near, made, entry)
                return
        looks = self.looks_of_run(made)
        text = text_of(outcome_by(self.table[made], looks))
        self.ran.append(made)
        if text is not None:
            self.left[made] = text
            self.store.note_made((self.table[made], looks, text))

    def take(self, is_near, made, entry):
        """Take the text of an entry."""
        self.left[made] = entry[2]
        self.store.note_found(is_near, entry)
        if is_near:
            self.found_near.append(made)
        else:
            self.found_far.append(made)


def true_entry(value):
    """Whether any value is an entry: a rule, a record of it, and the text that it tells."""
    if not isinstance(value, tuple) or len(value) != 3 or not is_rule(value[0]) or not is_record(value[0], value[1]):
        return False
    text = text_of(outcome_by(value[0], value[1]))
    return text is not None and value[2] == text


def check_entries(value):
    """Raise an error for any value that is no tuple of unlike entries."""
    if not isinstance(value, tuple) or len(value) > MOST_ENTRIES:
        raise BadEntries(None)
    for index, thing in enumerate(value):
        if not true_entry(thing) or thing in value[:index]:
            raise BadEntries(index)
