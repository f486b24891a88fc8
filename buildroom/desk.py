"""Desks: builders whose every step can be taken back, and done again."""

from buildroom.benches import Bench
from buildroom.errors import BadStep
from buildroom.paths import ascending_pairs, check_tree
from buildroom.steps import check_aims, check_books, check_way, is_step


class Desk:
    """Builds the aims of some books by a way; no bench of it is changed, but each step is done at a copy."""

    def __init__(self, books, tree, aims, way):
        check_books(books)
        check_tree(tree)
        check_aims(aims, books)
        check_way(way)
        self._bench = Bench(books, tree, aims, way)
        # Pairs of a step that stands and the bench ahead of it, and of one that was taken back and the bench behind it.
        self._done = []
        self._undone = []

    @property
    def row(self):
        """The tuple of the steps that stand."""
        return tuple([step for step, _ in self._done])

    @property
    def texts(self):
        """The pairs (made, text), ascending, of what lies."""
        return ascending_pairs(self._bench.left)

    @property
    def files(self):
        """The tree."""
        return ascending_pairs(self._bench.sources)

    def __len__(self):
        return len(self._done)

    def do(self, step):
        """Do a step, and return the made paths whose rules began to run, in this order."""
        bench, ran = self._behind(step)
        self._done.append((step, self._bench))
        self._undone = []
        self._bench = bench
        return ran

    def would(self, step):
        """What do would return for a step; nothing is done."""
        _, ran = self._behind(step)
        return ran

    def undo(self):
        """Take the last step back that stands; whether there was one."""
        if not self._done:
            return False
        step, ahead = self._done.pop()
        self._undone.append((step, self._bench))
        self._bench = ahead
        return True

    def redo(self):
        """Do the last step again that was taken back, if no step was done since; whether there was one."""
        if not self._undone:
            return False
        step, behind = self._undone.pop()
        self._done.append((step, self._bench))
        self._bench = behind
        return True

    def right(self):
        """Whether just the texts of a clean build lie at the aims."""
        return self._bench.is_right()

    def copy(self):
        """An independent desk that stands as this one, and can take back and do again the same."""
        bench = self._bench
        other = Desk(bench.books, self.files, bench.aims, bench.way)
        other._bench = bench
        other._done = list(self._done)
        other._undone = list(self._undone)
        return other

    def _behind(self, step):
        """The bench behind a step, and the made paths whose rules began to run."""
        if not is_step(step, self._bench.books):
            raise BadStep()
        bench = self._bench.copy()
        ran = bench.do(step)
        return (bench, ran)
