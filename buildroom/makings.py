"""What all builds that make some aims have in common: each path is made once at most, and rings fall."""

from buildroom.looks import look_at, next_place, place_of


class RingMet(Exception):
    """A made path is wanted while it is itself being made, or behind its fall to such a ring."""


class Making:
    """A build by a table of rules; sources and left are the texts of files, and what lies at made paths."""

    def __init__(self, table, sources, left):
        self.table = table
        self.sources = sources
        self.left = left
        self.waiting = []
        self.ended = {}
        self.fallen = {}

    def fill(self, made):
        """Do what there is to do at a made path."""
        raise NotImplementedError()

    def empty(self, made):
        """Leave nothing at a made path that falls to a ring: if nothing lay at first, there is nothing to do."""

    def make_aim(self, aim):
        """Make an aim; if a ring is met, all that are being made fall to it."""
        try:
            self.make(aim)
        except RingMet:
            for made in self.waiting:
                self.empty(made)
                self.fallen[made] = True
            self.waiting = []

    def make(self, made):
        """Make a path, if it was not made in this build; whoever comes to one of a ring falls to it, too."""
        if made in self.waiting or made in self.fallen:
            raise RingMet()
        if made in self.ended:
            return
        self.waiting.append(made)
        self.fill(made)
        self.waiting.pop()
        self.ended[made] = True

    def look(self, place):
        """The look at a place; what is made there is made first."""
        word, where = place
        if word == "path" and where in self.table:
            self.make(where)
        return look_at(place, self.sources, self.table, self.left)

    def looks_of_run(self, made):
        """The looks of a run of the rule of a made path."""
        rule, looks = self.table[made], ()
        place = next_place(rule, looks)
        while place is not None:
            looks = looks + (self.look(place),)
            place = next_place(rule, looks)
        return looks

    def sees_the_same(self, record):
        """Whether all looks of a record see the same now; none behind the first that does not is done."""
        for look in record:
            if self.look(place_of(look)) != look:
                return False
        return True
