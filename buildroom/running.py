"""Clean builds: every made path is made of the tree alone, in any order that goes."""

from buildroom.books import check_book, check_made, rule_table
from buildroom.looks import look_at, next_place, outcome_by, place_of, text_of
from buildroom.paths import check_tree

RING = ("ring",)


class CleanBuild:
    """What a clean build makes of a book and a tree, or a table of files.

    Rules that fall to a ring have a record, of the looks that they came to, but no outcome.
    """

    def __init__(self, book, tree):
        self.sources = dict(tree)
        self.table = rule_table(book)
        self.records = {made: () for made in self.table}
        self.outcomes = {}
        self.texts_made = {}
        self.make_all()

    def make_all(self):
        """Go round the rules that wait, until none of them comes to its end any more."""
        waiting, ahead = list(self.table), []
        while waiting != ahead:
            ahead = waiting
            for made in ahead:
                self.go_on(made)
            waiting = [made for made in ahead if made not in self.outcomes]

    def go_on(self, made):
        """Let a rule look as far as it comes now."""
        rule = self.table[made]
        place = next_place(rule, self.records[made])
        while place is not None:
            look = self.look(place)
            if look is None:
                return
            self.records[made] = self.records[made] + (look,)
            place = next_place(rule, self.records[made])
        self.end(made, outcome_by(rule, self.records[made]))

    def end(self, made, outcome):
        """Note the outcome of a made path."""
        self.outcomes[made] = outcome
        if text_of(outcome) is not None:
            self.texts_made[made] = text_of(outcome)

    def outcome_at(self, made):
        """The outcome of a made path, that of a ring among them."""
        return self.outcomes.get(made, RING)

    def look(self, place):
        """The look at a place, None at what is not made yet, or falls to a ring."""
        if place[0] == "path" and place[1] in self.table and place[1] not in self.outcomes:
            return None
        return look_at(place, self.sources, self.table, self.texts_made)

    def places_come_to(self, made):
        """What the rule of a made path looked at, in order, and behind it what it waits for in a ring."""
        places = [place_of(look) for look in self.records[made]]
        waited_for = next_place(self.table[made], self.records[made])
        return places if waited_for is None else places + [waited_for]

    def made_come_to(self):
        """A dict: for each made path the made ones, perhaps some twice, among the places that its rule came to."""
        table = self.table
        return {made: [path for word, path in self.places_come_to(made) if word == "path" and path in table]
                for made in table}


def clean(book, tree):
    """The pairs of all made paths, ascending, and their outcomes."""
    check_book(book)
    check_tree(tree)
    build = CleanBuild(book, tree)
    return tuple([(made, build.outcome_at(made)) for made in build.table])


def run(book, tree, made):
    """The outcome of a made path, and the record of its run, None for a ring."""
    build = build_for(book, tree, made)
    if made not in build.outcomes:
        return (RING, None)
    return (build.outcomes[made], build.records[made])


def reads_behind(book, tree, made):
    """The paths, ascending, that the rule of a made path looks at, or the rules of made ones among them."""
    build = build_for(book, tree, made)
    found, behind = {}, [made]
    while behind:
        looks = build.records[behind.pop()]
        for path in [look[1] for look in looks if look[0] != "names"]:
            if path in build.table and path not in found:
                behind.append(path)
            found[path] = True
    return sorted(found)


def lies_clean(book, tree, aims, left):
    """Whether at some made paths just the texts of a clean build lie, by the table of what lies."""
    texts = CleanBuild(book, tree).texts_made
    return all([left.get(aim) == texts.get(aim) for aim in aims])


def build_for(book, tree, made):
    """The clean build that is asked about a made path; an error for wrong values of the three."""
    check_book(book)
    check_tree(tree)
    check_made(book, made)
    return CleanBuild(book, tree)
