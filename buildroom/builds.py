"""One build of a bench: which made paths are old by a way, and what their rules leave."""

from buildroom.books import told_paths
from buildroom.looks import outcome_by, text_of
from buildroom.makings import Making


class CutOff(Exception):
    """The build ends here."""


class Build(Making):
    """A build that goes on at a bench; cut is the number of the run that it is cut off behind, or None."""

    def __init__(self, bench, cut):
        Making.__init__(self, bench.rules_now(), bench.sources, bench.left)
        self.bench = bench
        self.cut = cut
        self.begun = []

    def go(self):
        """Bring all aims up, and return the made paths whose rules began to run."""
        try:
            for aim in self.bench.aims:
                self.make_aim(aim)
        except CutOff:
            pass
        return tuple(self.begun)

    def empty(self, made):
        """Leave nothing at a made path, and keep no run of it."""
        self.bench.lose(made)
        self.bench.forget(made)

    def fill(self, made):
        """Run the rule of a made path if it is old; CutOff behind the run that the build is cut off behind."""
        if not self.is_old(made):
            return
        number = len(self.begun)
        self.begun.append(made)
        looks = self.looks_of_run(made)
        text = text_of(outcome_by(self.table[made], looks))
        if number == self.cut:
            self.bench.leave_half(made, text)
            raise CutOff()
        self.bench.keep_run(made, (self.table[made], looks, text))

    def is_old(self, made):
        """Whether a made path is old by the way of the bench; what this hangs on is brought up first."""
        if self.bench.way == "moments":
            return self.is_old_by_moments(made)
        if self.bench.way == "records":
            return self.lacks_its_text(made) or self.has_changed(made)
        if self.bench.way == "whole":
            return self.is_not_as_run(made) or self.has_changed(made)
        return True

    def is_old_by_moments(self, made):
        """Whether something that the rule tells to look at is later, or not there."""
        told = told_paths(self.table[made])
        for path in told:
            if path in self.table:
                self.make(path)
        if made not in self.left:
            return True
        moments = [self.bench.moment_at(path, self.table) for path in told]
        return any([moment is None or moment > self.bench.left_at[made] for moment in moments])

    def lacks_its_text(self, made):
        """Whether no run is kept, or nothing lies where the last run made a text."""
        kept = self.bench.kept
        return made not in kept or (kept[made][2] is not None and made not in self.left)

    def is_not_as_run(self, made):
        """Whether no run is kept, or the rule or what lies there is not just that of the last run."""
        kept = self.bench.kept
        if made not in kept or kept[made][0] != self.table[made]:
            return True
        return kept[made][2] != self.left.get(made)

    def has_changed(self, made):
        """Whether a look of the last run does not see the same now."""
        return not self.sees_the_same(self.bench.kept[made][1])
