"""Shops: what some steps do, in all rows of any length, by each way to tell old from new."""

from buildroom.benches import Bench
from buildroom.counts import is_from_to
from buildroom.errors import BadRow, BadShop, BadSteps
from buildroom.paths import ascending_pairs, check_tree
from buildroom.steps import check_aims, check_books, check_way, is_step

MOST_STEPS = 8


class Shop:
    """Some books, a tree, aims and steps, which builders of the shop do in rows."""

    def __init__(self, books, tree, aims, steps):
        check_books(books)
        check_tree(tree)
        check_aims(aims, books)
        check_steps(steps, books)
        self._books = books
        self._tree = tree
        self._aims = aims
        self._steps = steps

    @property
    def steps(self):
        """The tuple of the steps."""
        return self._steps

    def __eq__(self, other):
        return (isinstance(other, Shop) and self._books == other._books and self._tree == other._tree
                and self._aims == other._aims and self._steps == other._steps)

    def new_bench(self, way):
        """What a builder of the shop has at first."""
        return Bench(self._books, self._tree, self._aims, way)


def first_wrong(shop, way):
    """The least of the shortest rows that end with a build, behind which the builder is not right, or None."""
    check_shop(shop)
    check_way(way)
    return first_row(shop, (way,), ("build",), is_wrong)


def always_right(shop, way):
    """Whether the builder is right behind each build of all rows."""
    return first_wrong(shop, way) is None


def first_needless(shop, way):
    """The least of the shortest rows that end with a build that runs a rule for just the text that lay there."""
    check_shop(shop)
    check_way(way)
    return first_row(shop, (way,), ("build",), is_needless)


def first_apart(shop, one, other):
    """The least of the shortest rows that end with a build or cut that is another one by one way than by other."""
    check_shop(shop)
    check_way(one)
    check_way(other)
    return first_row(shop, (one, other), ("build", "cut"), is_apart)


def follow(shop, way, row):
    """What do returns for each step of a row."""
    check_row(shop, way, row)
    bench = shop.new_bench(way)
    return [bench.do(shop.steps[number]) for number in row]


def left_by(shop, way, row):
    """The pair of the tree and of what lies behind a row."""
    check_row(shop, way, row)
    bench = shop.new_bench(way)
    for number in row:
        bench.do(shop.steps[number])
    return (ascending_pairs(bench.sources), ascending_pairs(bench.left))


def first_row(shop, ways, words, ends):
    """The least of the shortest rows whose last step has one of the words, and ends the search, or None.

    The steps are done at a bench of each way. Rows behind which all benches stand alike go on alike, so just the first
    of them is gone on with.
    """
    if not any([step[0] in words for step in shop.steps]):
        return None
    start = [shop.new_bench(way) for way in ways]
    seen = {tuple([bench.standing() for bench in start]): True}
    level = [((), start)]
    while level:
        behind = []
        for row, benches in level:
            for number, step in enumerate(shop.steps):
                moved = [bench.copy() for bench in benches]
                ran = [bench.do(step) for bench in moved]
                if step[0] in words and ends(ran, benches, moved):
                    return row + (number,)
                standing = tuple([bench.standing() for bench in moved])
                if standing not in seen:
                    seen[standing] = True
                    behind.append((row + (number,), moved))
        level = behind
    return None


def is_wrong(ran, ahead, behind):
    """Whether the bench is not right behind a step."""
    return not behind[0].is_right()


def is_needless(ran, ahead, behind):
    """Whether a rule ran by a step, and left just the text that lay at its path ahead of it."""
    lay, lies = ahead[0].left, behind[0].left
    return any([made in lay and lies.get(made) == lay[made] for made in ran[0]])


def is_apart(ran, ahead, behind):
    """Whether other rules ran at one bench than at the other one by a step, or something else lies there."""
    return ran[0] != ran[1] or behind[0].left != behind[1].left


def check_steps(value, books):
    """Raise an error for any value that is no tuple of steps of these books."""
    if not isinstance(value, tuple) or len(value) > MOST_STEPS:
        raise BadSteps(None)
    for index, thing in enumerate(value):
        if not is_step(thing, books):
            raise BadSteps(index)


def check_shop(value):
    """Raise an error for any value that is no shop."""
    if not isinstance(value, Shop):
        raise BadShop()


def check_row(shop, way, value):
    """Raise an error for wrong values of a shop, of a way, and of a row of numbers of the shop's steps."""
    check_shop(shop)
    check_way(way)
    if not isinstance(value, tuple) or not all([is_from_to(thing, 0, len(shop.steps) - 1) for thing in value]):
        raise BadRow()
