"""Builders: a tree and what lies at made paths, changed step by step, and built by one of four ways."""

from buildroom.benches import Bench
from buildroom.errors import BadStep
from buildroom.paths import ascending_pairs, check_tree
from buildroom.steps import check_aims, check_books, check_way, is_step


class Builder:
    """Builds the aims of some books by a way; nothing lies at first."""

    def __init__(self, books, tree, aims, way):
        check_books(books)
        check_tree(tree)
        check_aims(aims, books)
        check_way(way)
        self._bench = Bench(books, tree, aims, way)

    @property
    def number(self):
        """The number of the book that is built by."""
        return self._bench.chosen

    @property
    def tree(self):
        """The tree."""
        return ascending_pairs(self._bench.sources)

    @property
    def lying(self):
        """The pairs (made, text), ascending, of what lies."""
        return ascending_pairs(self._bench.left)

    def do(self, step):
        """Do a step, and return the made paths whose rules began to run, in this order."""
        if not is_step(step, self._bench.books):
            raise BadStep()
        return self._bench.do(step)

    def right(self):
        """Whether just the texts of a clean build lie at the aims."""
        return self._bench.is_right()

    def copy(self):
        """An independent builder that stands as this one."""
        bench = self._bench
        other = Builder(bench.books, self.tree, bench.aims, bench.way)
        other._bench = bench.copy()
        return other
