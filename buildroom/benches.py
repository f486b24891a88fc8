"""Benches: what a builder has, and what its steps do there. Nothing is checked here."""

from buildroom.books import rule_table, told_paths
from buildroom.builds import Build
from buildroom.paths import MOST_FILES, ascending_pairs, in_the_way
from buildroom.running import lies_clean

# The one moment of all files that were put back, and that of the files at first.
BACK = 0
BEGINNING = 1


class Bench:
    """A tree, what lies at made paths, the moments of both, and the last run of each made path."""

    def __init__(self, books, tree, aims, way):
        self.books = books
        self.aims = aims
        self.way = way
        self.chosen = 0
        self.clock = BEGINNING
        self.sources = dict(tree)
        self.sources_at = {path: BEGINNING for path in self.sources}
        self.left = {}
        self.left_at = {}
        self.kept = {}

    def copy(self):
        """An independent bench that stands as this one."""
        other = Bench(self.books, (), self.aims, self.way)
        other.chosen = self.chosen
        other.clock = self.clock
        other.sources = dict(self.sources)
        other.sources_at = dict(self.sources_at)
        other.left = dict(self.left)
        other.left_at = dict(self.left_at)
        other.kept = dict(self.kept)
        return other

    def rules_now(self):
        """The rules that are built by, by their made paths."""
        return rule_table(self.books[self.chosen])

    def do(self, step):
        """Do a step, and return the made paths whose rules began to run."""
        word = step[0]
        if word == "build":
            return Build(self, None).go()
        if word == "cut":
            return Build(self, step[1]).go()
        if word == "swap":
            self.chosen = step[1]
        elif word in ("write", "back"):
            self.put_file(word, step[1], step[2])
        elif word in ("drop", "touch"):
            self.change_file(word, step[1])
        elif word == "spoil":
            self.lay(step[1], step[2])
        elif word == "lose":
            self.lose(step[1])
        else:
            self.forget(step[1])
        return ()

    def new_moment(self):
        """A moment later than all others."""
        self.clock += 1
        return self.clock

    def put_file(self, word, path, text):
        """Put a file to the tree, if there is room and nothing in the way."""
        if path not in self.sources:
            if len(self.sources) == MOST_FILES or any([in_the_way(path, other) for other in self.sources]):
                return
        self.sources[path] = text
        self.sources_at[path] = BACK if word == "back" else self.new_moment()

    def change_file(self, word, path):
        """Take a file away, or give it a new moment, if it is there."""
        if path not in self.sources:
            return
        if word == "touch":
            self.sources_at[path] = self.new_moment()
        else:
            del self.sources[path]
            del self.sources_at[path]

    def lay(self, made, text):
        """Leave a text at a made path."""
        self.left[made] = text
        self.left_at[made] = self.new_moment()

    def lose(self, made):
        """Leave nothing at a made path."""
        self.left.pop(made, None)
        self.left_at.pop(made, None)

    def forget(self, made):
        """Keep no run of a made path."""
        self.kept.pop(made, None)

    def keep_run(self, made, last):
        """Keep a run that has ended, a tuple (rule, record, text or None), and leave its text."""
        self.kept[made] = last
        if last[2] is None:
            self.lose(made)
        else:
            self.lay(made, last[2])

    def leave_half(self, made, text):
        """Leave the first half of a text, if there is one, behind a run that was cut off."""
        if text is not None:
            self.lay(made, text[:len(text) // 2])

    def moment_at(self, path, table):
        """The moment of what is at a path by the rules of a table, None if nothing is."""
        return self.left_at.get(path) if path in table else self.sources_at.get(path)

    def is_right(self):
        """Whether just the texts of a clean build lie at the aims."""
        return lies_clean(self.books[self.chosen], self.sources, self.aims, self.left)

    def standing(self):
        """All that further steps hang on, as a tuple: benches of one way with equal ones go on alike."""
        seen = (self.chosen, ascending_pairs(self.sources), ascending_pairs(self.left))
        if self.way == "moments":
            return seen + (self.later_pairs(),)
        if self.way == "records":
            return seen + (tuple([(made,) + self.kept[made][1:] for made in sorted(self.kept)]),)
        if self.way == "whole":
            return seen + (tuple([(made,) + self.kept[made] for made in sorted(self.kept)]),)
        return seen

    def later_pairs(self):
        """For each rule of all books, and each path that it tells, whether what is there is later than what it made.

        No more of the moments is ever asked for: a new one is later than all others, one put back earlier.
        """
        tables = [rule_table(book) for book in self.books]
        pairs = [(table, made, path) for table in tables for made in table for path in told_paths(table[made])]
        return tuple([self.is_later(table, made, path) for table, made, path in pairs])

    def is_later(self, table, made, path):
        """Whether what is at a path is later than what lies at a made one, both being there."""
        moment = self.moment_at(path, table)
        return made in self.left and moment is not None and moment > self.left_at[made]
