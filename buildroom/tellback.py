"""What is told back from what lies: by which rows of steps, which books, and which cut off builds it came."""

from buildroom.benches import Bench
from buildroom.counts import is_from_to
from buildroom.errors import BadMost, BadSeen
from buildroom.looks import LONGEST_MADE
from buildroom.paths import ascending_pairs, check_tree, has_signs, is_path
from buildroom.running import lies_clean
from buildroom.shops import check_shop
from buildroom.steps import MOST_CUT, check_aims, check_books, check_way

MOST_TOLD_BACK = 3


class Course:
    """Some steps of a shop, by their numbers, the bench behind them, and the made paths whose rules ran by them."""

    def __init__(self, numbers, bench, ran):
        self.numbers = numbers
        self.bench = bench
        self.ran = ran

    def longer(self, shop, number):
        """The course of one more step."""
        bench = self.bench.copy()
        ran = bench.do(shop.steps[number])
        return Course(self.numbers + (number,), bench, self.ran + ran)


def explained(shop, way, most, seen):
    """The rows of at most so many steps behind which just what is seen lies; the shorter first, then the lesser."""
    return [course.numbers for course in courses_to(shop, way, most, seen)]


def least_explained(shop, way, most, seen):
    """The first of the rows of at most so many steps that explain what is seen, None if there is none."""
    courses = courses_to(shop, way, most, seen)
    return courses[0].numbers if courses else None


def sure_done(shop, way, most, seen):
    """The numbers of steps, ascending, that stand in each row that explains what is seen; None if there is none."""
    courses = courses_to(shop, way, most, seen)
    return in_all([course.numbers for course in courses]) if courses else None


def sure_runs(shop, way, most, seen):
    """The made paths, ascending, whose rules ran in each row that explains what is seen; None if there is none."""
    courses = courses_to(shop, way, most, seen)
    return in_all([course.ran for course in courses]) if courses else None


def sure_files(shop, way, most, seen):
    """The files, ascending, that the tree has behind each row that explains what is seen; None if there is none."""
    courses = courses_to(shop, way, most, seen)
    return tuple(in_all([ascending_pairs(course.bench.sources) for course in courses])) if courses else None


def which_books(books, tree, aims, seen):
    """The numbers of the books by which what is seen is right at the aims."""
    check_books(books)
    check_tree(tree)
    check_aims(aims, books)
    check_seen(seen)
    return [number for number, book in enumerate(books) if lies_clean(book, tree, aims, dict(seen))]


def which_cuts(books, tree, aims, way, seen):
    """The numbers of the runs of a first build in which it leaves, cut off, just what is seen."""
    left = left_by_cuts(books, tree, aims, way)
    check_seen(seen)
    return [number for number, lies in enumerate(left) if lies == seen]


def cut_kinds(books, tree, aims, way):
    """The numbers of the runs of a first build, in lists of those in which it leaves, cut off, the same."""
    kinds = {}
    for number, lies in enumerate(left_by_cuts(books, tree, aims, way)):
        kinds[lies] = kinds.get(lies, []) + [number]
    return list(kinds.values())


def courses_to(shop, way, most, seen):
    """The courses of at most so many steps behind which just what is seen lies, those of fewer steps first."""
    check_shop(shop)
    check_way(way)
    check_most(most)
    check_seen(seen)
    level = [Course((), shop.new_bench(way), ())]
    courses = list(level)
    for _ in range(most):
        level = [course.longer(shop, number) for course in level for number in range(len(shop.steps))]
        courses.extend(level)
    return [course for course in courses if ascending_pairs(course.bench.left) == seen]


def in_all(rows):
    """What stands in each of some rows, ascending, each thing once."""
    return sorted({thing for thing in rows[0] if all([thing in row for row in rows])})


def left_by_cuts(books, tree, aims, way):
    """What lies behind a first build by the first book that is cut off in its first run, its second one, and so on."""
    check_books(books)
    check_tree(tree)
    check_aims(aims, books)
    check_way(way)
    ran = Bench(books, tree, aims, way).do(("build",))
    left = []
    for number in range(len(ran[:MOST_CUT + 1])):
        bench = Bench(books, tree, aims, way)
        bench.do(("cut", number))
        left.append(ascending_pairs(bench.left))
    return left


def is_seen(value):
    """Whether any value is a pair of a path and a text that may be made."""
    if not isinstance(value, tuple) or len(value) != 2:
        return False
    return is_path(value[0]) and has_signs(value[1], LONGEST_MADE)


def check_most(value):
    """Raise an error for any value that is no greatest number of steps."""
    if not is_from_to(value, 0, MOST_TOLD_BACK):
        raise BadMost()


def check_seen(value):
    """Raise an error for any value that is no ascending tuple of what is seen at paths."""
    if not isinstance(value, tuple):
        raise BadSeen(None)
    for index, thing in enumerate(value):
        if not is_seen(thing) or (index > 0 and thing[0] <= value[index - 1][0]):
            raise BadSeen(index)
