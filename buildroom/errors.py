"""The errors of the package, all of them directly under RoomError."""


class RoomError(ValueError):
    """The base class of all errors of the package."""


class BadPath(RoomError):
    """The value is no path that may stand there."""


class BadFolder(RoomError):
    """The value is no folder."""


class BadWords(RoomError):
    """The value is no text."""


class BadTree(RoomError):
    """The value is no tree; index is the place of the first wrong file, None for what is no tuple of files."""

    def __init__(self, index):
        self.index = index


class Clash(RoomError):
    """A file or a made path would lie within another one."""


class Full(RoomError):
    """The tree would have too many files."""


class Absent(RoomError):
    """There is nothing at the path."""


class BadRules(RoomError):
    """The value is no tuple of rules; index is the place of the first wrong one, None for what is no such tuple."""

    def __init__(self, index):
        self.index = index


class BadBook(RoomError):
    """The value is no book."""


class BadRule(RoomError):
    """The value is no rule."""


class BadMade(RoomError):
    """The value is no made path of the book."""


class BadRecord(RoomError):
    """The value is no record of the rule."""


class BadBooks(RoomError):
    """The value is no tuple of books; index is the place of the first wrong one, None for what is no such tuple."""

    def __init__(self, index):
        self.index = index


class BadAims(RoomError):
    """The value is no tuple of paths that are made."""


class BadWay(RoomError):
    """The value is no way to tell old from new."""


class BadStep(RoomError):
    """The value is no step of these books."""


class BadSteps(RoomError):
    """The value is no tuple of steps; index is the place of the first wrong one, None for what is no such tuple."""

    def __init__(self, index):
        self.index = index


class BadShop(RoomError):
    """The value is no shop."""


class BadRow(RoomError):
    """The value is no row of numbers of steps."""


class BadNumber(RoomError):
    """The value n is no room of a store."""

    def __init__(self, n):
        self.n = n


class BadShelf(RoomError):
    """The value is no kind of shelf."""


class BadRequests(RoomError):
    """The value is no tuple of requests; index is the place of the first wrong one, None for what is no such tuple."""

    def __init__(self, index):
        self.index = index


class BadThings(RoomError):
    """The value is no number of things."""


class BadLength(RoomError):
    """The value is no length, bound or end that may stand there."""


class BadPlan(RoomError):
    """The value is no plan; index is the place of the first wrong job, None for what is no tuple of jobs."""

    def __init__(self, index):
        self.index = index


class BadMachines(RoomError):
    """The value is no number of machines."""


class BadRoom(RoomError):
    """The value is no room of machines."""


class BadOrder(RoomError):
    """The value is no order of all jobs."""


class BadSlots(RoomError):
    """The value is no number of slots."""


class BadState(RoomError):
    """The values are no state of a plan and its slots."""


class TooManyStates(RoomError):
    """There are more states, or orders, than the most that are gone through."""

    def __init__(self, most):
        self.most = most


class InvalidText(RoomError):
    """The text cannot be read; line and word, from 1, are the place of the first word that cannot stand there."""

    def __init__(self, line, word):
        self.line = line
        self.word = word


class NoText(RoomError):
    """The book cannot be written as a text."""


class BadEdits(RoomError):
    """The value is no tuple of edits; index is the place of the first wrong one, None for what is no such tuple."""

    def __init__(self, index):
        self.index = index


class BadSeen(RoomError):
    """The value is nothing that is seen; index is the place of the first wrong pair, None for what is no tuple."""

    def __init__(self, index):
        self.index = index


class BadMost(RoomError):
    """The value is no greatest number of steps."""


class BadEntries(RoomError):
    """The value is no tuple of entries; index is the place of the first wrong one, None for what is no such tuple."""

    def __init__(self, index):
        self.index = index


class BadKind(RoomError):
    """The value is no kind of store."""


class BadLengths(RoomError):
    """The value is no tuple of lengths of rules."""
