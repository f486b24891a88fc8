"""Point 5: told rings, told orders and depths, by hand and against all tuples of made paths of many books."""

import random
import unittest
from itertools import permutations

from buildroom.books import Book, depths, made_paths, right_order, right_ring, told_order, told_ring
from tests.helpers import STRANGE


def joins(**told):
    """A book that makes each path by a join of the paths in its string."""
    return Book(tuple([(made, "join", tuple(paths)) for made, paths in told.items()]))


def told_by_rule(rule):
    """The paths that a rule tells to look at, written out kind by kind."""
    return {"join": lambda: list(rule[2]), "names": lambda: [], "choose": lambda: list(rule[2:5])}.get(
        rule[1], lambda: [rule[2]])()


def table(book):
    """For each made path what its rule tells to look at, made or not."""
    return {rule[0]: told_by_rule(rule) for rule in book.rules}


def all_rings(book):
    """All told rings, the shorter first, then the lesser."""
    told = table(book)
    rows = [row for length in range(1, len(told) + 1) for row in permutations(sorted(told), length)]
    return [row for row in rows if all(row[(at + 1) % len(row)] in told[row[at]] for at in range(len(row)))]


def all_orders(book):
    """All told orders, the lesser first."""
    told = table(book)
    rows = permutations(sorted(told))
    return [row for row in rows if all(row.index(path) < row.index(made) for made in row for path in told[made] if path in told)]


def depth(told, made):
    return 1 + max([depth(told, path) for path in told[made] if path in told], default=0)


def some_book(dice, most):
    """A book of at most so many rules of all kinds over few paths."""
    paths = ["a", "b", "c", "d/e", "d/f", "g"]
    made = dice.sample(paths, dice.randint(0, most))
    rules = []
    for path in made:
        one, two, three, four = [dice.choice(paths + ["s", "t"]) for _ in range(4)]
        rules.append(dice.choice((
            (path, "join", (one, two, three, four)), (path, "join", (one, two)), (path, "join", ()),
            (path, "size", one), (path, "sort", one), (path, "pick", one, two), (path, "names", one),
            (path, "use", one), (path, "choose", one, two, three), (path, "need", one, two),
        )))
    return Book(tuple(rules))


class TellsToLook(unittest.TestCase):
    def test_each_kind_tells_its_paths(self):
        tell = (("m", "join", ("a", "b", "a", "x")), ("m", "size", "x"), ("m", "sort", "x"), ("m", "use", "x"),
                ("m", "pick", "x", "m"), ("m", "need", "x", "m"), ("m", "choose", "x", "a", "b"),
                ("m", "choose", "a", "x", "b"), ("m", "choose", "a", "b", "x"), ("m", "join", ("x",)))
        for rule in tell:
            with self.subTest(rule):
                book = Book((rule, ("x", "size", "s")))
                self.assertEqual([told_order(book), depths(book), told_ring(book)], [("x", "m"), [2, 1], None])
                ring = Book((rule, ("x", "size", "m")))
                self.assertEqual([told_order(ring), depths(ring), told_ring(ring)], [None, None, ("m", "x")])

    def test_words_and_folders_are_not_told(self):
        for rule in (("m", "pick", "a", "x"), ("m", "need", "a", "x"), ("m", "names", "x"), ("m", "names", "m"),
                     ("m", "pick", "a", "m"), ("m", "join", ()), ("m", "size", "x/y")):
            with self.subTest(rule):
                book = Book((rule, ("x", "size", "m")))
                self.assertEqual([told_order(book), depths(book), told_ring(book)], [("m", "x"), [1, 2], None])

    def test_a_path_within_a_made_one_is_another(self):
        book = Book((("a", "size", "b/c"), ("b", "size", "a"), ("c", "size", "c/d")))
        self.assertEqual([told_ring(book), told_order(book), depths(book)], [None, ("a", "b", "c"), [1, 2, 1]])


class Rings(unittest.TestCase):
    def test_none(self):
        self.assertIsNone(told_ring(Book(())))
        self.assertIsNone(told_ring(joins(a="bc", b="c", c="st")))

    def test_a_ring_of_one(self):
        self.assertEqual(told_ring(joins(a="b", b="ab")), ("b",))
        self.assertEqual(told_ring(joins(b="b", a="sa")), ("a",))

    def test_the_shortest_ahead_of_the_least(self):
        self.assertEqual(told_ring(joins(a="b", b="c", c="a", x="y", y="x")), ("x", "y"))
        self.assertEqual(told_ring(joins(a="b", b="a", z="z")), ("z",))

    def test_the_least_of_several_shortest(self):
        self.assertEqual(told_ring(joins(y="x", x="y", q="p", p="q")), ("p", "q"))
        self.assertEqual(told_ring(joins(a="dc", b="a", c="b", d="b")), ("a", "c", "b"))
        self.assertEqual(told_ring(joins(c="b", b="a", a="c")), ("a", "c", "b"))
        self.assertEqual(told_ring(joins(a="b", b="cd", c="b", d="b")), ("b", "c"))

    def test_the_least_of_several_shortest_from_one_path(self):
        for others in ("edcb", "zyxw", "9876", "b3g1", "trsq"):
            book = joins(a=others, **{path: "a" for path in others})
            self.assertEqual(told_ring(book), tuple(sorted(("a", min(others)))))

    def test_a_ring_of_eight(self):
        book = joins(a="h", h="b", b="g", g="c", c="f", f="d", d="e", e="a")
        self.assertEqual(told_ring(book), ("a", "h", "b", "g", "c", "f", "d", "e"))

    def test_paths_that_lead_to_a_ring_are_not_of_it(self):
        self.assertEqual(told_ring(joins(a="b", b="c", c="d", d="c")), ("c", "d"))

    def test_right_ring(self):
        book = joins(a="b", b="ca", c="a", d="d", e="a")
        for value in (("a", "b"), ("b", "a"), ("a", "b", "c"), ("b", "c", "a"), ("c", "a", "b"), ("d",)):
            self.assertIs(right_ring(book, value), True)
        for value in ((), ("a",), ("a", "c", "b"), ("a", "b", "a", "b"), ("d", "d"), ("e", "a"), ("e", "a", "b"), ("b", "c"),
                      ("a", "b", "s"), ("s",), ("a", "b", "c", "a"), ("a", "b", "d"), ["d"], "d", ("d", None), {"d": "d"}):
            self.assertIs(right_ring(book, value), False)

    def test_a_file_is_in_no_ring(self):
        self.assertIs(right_ring(joins(a="s"), ("a", "s")), False)

    def test_right_ring_of_any_value(self):
        for value in STRANGE + ((), "", (["a"],), ({},), ("a", ["a"]), ("a", True)):
            with self.subTest(value=value):
                self.assertIs(right_ring(Book(()), value), False)
                self.assertIs(right_ring(joins(a="b", b="a"), value), False)


class Orders(unittest.TestCase):
    def test_the_empty_book(self):
        self.assertEqual([told_order(Book(())), depths(Book(()))], [(), []])
        self.assertIs(right_order(Book(()), ()), True)

    def test_the_least_of_several(self):
        self.assertEqual(told_order(joins(c="", b="", a="")), ("a", "b", "c"))
        self.assertEqual(told_order(joins(a="d", b="", c="b", d="")), ("b", "c", "d", "a"))
        self.assertEqual(told_order(joins(a="c", b="d", c="", d="")), ("c", "a", "d", "b"))

    def test_none_for_a_ring(self):
        for book in (joins(a="a"), joins(a="b", b="a", c=""), joins(a="", b="c", c="b"), joins(a="b", b="b")):
            self.assertIsNone(told_order(book))
            self.assertIsNone(depths(book))
            for value in permutations(made_paths(book)):
                self.assertIs(right_order(book, value), False)

    def test_right_order(self):
        book = joins(a="d", b="", c="b", d="")
        for value in (("b", "c", "d", "a"), ("d", "a", "b", "c"), ("b", "d", "c", "a")):
            self.assertIs(right_order(book, value), True)
        for value in (("a", "b", "c", "d"), ("b", "c", "d"), ("b", "c", "d", "a", "a"), ("b", "c", "d", "a", "s"), (),
                      ("c", "b", "d", "a"), ["b", "c", "d", "a"], ("b", "b", "d", "a"), "bcda", ("b", "c", "d", None)):
            self.assertIs(right_order(book, value), False)

    def test_right_order_of_any_value(self):
        for value in STRANGE + ("", (["a"],), ({},), ("a", ["a"]), ("a", True)):
            with self.subTest(value=value):
                self.assertIs(right_order(Book(()), value), False)
                self.assertIs(right_order(joins(a="s", b="a"), value), False)

    def test_depths(self):
        self.assertEqual(depths(joins(d="c", c="b", b="a", a="s")), [1, 2, 3, 4])
        self.assertEqual(depths(joins(a="bcd", b="cc", c="", d="st")), [3, 2, 1, 1])
        self.assertEqual(depths(joins(a="b", b="c", c="d", d="e", e="f", f="g", g="h", h="")), [8, 7, 6, 5, 4, 3, 2, 1])


class AgainstAllTuples(unittest.TestCase):
    def test_many_books(self):
        dice = random.Random(4)
        rings = orders = 0
        for _ in range(400):
            book = some_book(dice, 4)
            with self.subTest(book.rules):
                right_rings, right_orders = all_rings(book), all_orders(book)
                rings, orders = rings + bool(right_rings), orders + bool(right_orders)
                self.assertEqual(told_ring(book), right_rings[0] if right_rings else None)
                self.assertEqual(told_order(book), right_orders[0] if right_orders else None)
                self.assertEqual(told_order(book) is None, told_ring(book) is not None)
                told = table(book)
                self.assertEqual(depths(book), [depth(told, made) for made in sorted(told)] if right_orders else None)
                for length in range(5):
                    for row in permutations(["a", "b", "c", "d/e", "d/f", "g", "s"], length):
                        self.assertIs(right_ring(book, row), row in right_rings)
                        self.assertIs(right_order(book, row), row in right_orders)
        self.assertGreater(min(rings, orders), 100)


if __name__ == "__main__":
    unittest.main()
