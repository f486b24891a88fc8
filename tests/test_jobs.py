"""Point 25: the plan of what a clean build runs."""

import itertools
import random
import unittest

from buildroom.books import Book
from buildroom.errors import BadBook, BadLengths, BadTree
from buildroom.jobs import plan_of
from buildroom.machines import least_end
from buildroom.running import clean, run
from tests.chance import FILES, MADE, some_book, some_tree
from tests.helpers import STRANGE, fault

BOOK = Book((("out", "join", ("a", "mid")), ("mid", "sort", "a")))
TREE = (("a", "x"),)


def plan_model(book, tree, lengths):
    """The paths and the plan by all orders of the paths that run."""
    records = {made: run(book, tree, made)[1] for made, outcome in clean(book, tree) if outcome != ("ring",)}
    seen = {made: {look[1] for look in record if look[0] in ("text", "stopped")} & set(records)
            for made, record in records.items()}
    orders = [row for row in itertools.permutations(sorted(records))
              if all(row.index(path) < row.index(made) for made in row for path in seen[made])]
    paths = min(orders)
    length_of = dict(zip([rule[0] for rule in book.rules], lengths))
    return paths, tuple([(length_of[made], tuple(sorted(paths.index(path) for path in seen[made])), 1)
                         for made in paths])


class Plans(unittest.TestCase):
    def test_lengths_are_those_of_the_rules_as_they_stand(self):
        self.assertEqual(plan_of(BOOK, TREE, (1, 99)), (("mid", "out"), ((99, (), 1), (1, (0,), 1))))

    def test_a_book_without_rules(self):
        self.assertEqual(plan_of(Book(()), (), ()), ((), ()))
        self.assertEqual(plan_of(Book(()), TREE, ()), ((), ()))

    def test_just_what_is_looked_at_is_needed(self):
        book = Book((("a", "choose", "s", "b", "c"), ("b", "size", "s"), ("c", "size", "s"), ("d", "join", ("no", "a"))))
        lengths = (1, 2, 3, 4)
        self.assertEqual(plan_of(book, (("s", "yes"),), lengths),
                         (("b", "a", "c", "d"), ((2, (), 1), (1, (0,), 1), (3, (), 1), (4, (), 1))))
        self.assertEqual(plan_of(book, (("s", ""),), lengths),
                         (("b", "c", "a", "d"), ((2, (), 1), (3, (), 1), (1, (1,), 1), (4, (), 1))))
        self.assertEqual(plan_of(book, (), lengths),
                         (("a", "b", "c", "d"), ((1, (), 1), (2, (), 1), (3, (), 1), (4, (), 1))))

    def test_what_is_found_on_the_way_is_needed(self):
        book = Book((("a", "use", "s"), ("b", "size", "s"), ("c", "size", "b")))
        self.assertEqual(plan_of(book, (("s", "use c\nuse b\nuse c"),), (1, 2, 3)),
                         (("b", "c", "a"), ((2, (), 1), (3, (0,), 1), (1, (0, 1), 1))))

    def test_outcomes_that_are_stopped_missing_or_lack_something(self):
        book = Book((("a", "size", "d"), ("b", "size", "no"), ("c", "join", ("b", "d")), ("d", "need", "s", "x")))
        self.assertEqual(plan_of(book, (("s", ""),), (1, 2, 3, 4)),
                         (("b", "c", "d", "a"), ((2, (), 1), (3, (0,), 1), (4, (), 1), (1, (2,), 1))))

    def test_rings_are_left_out(self):
        book = Book((("a", "size", "b"), ("b", "size", "a"), ("c", "join", ("s", "b")), ("d", "size", "s"),
                     ("e", "join", ("no", "c"))))
        self.assertEqual(plan_of(book, (("s", ""),), (1, 2, 3, 4, 5)), (("d", "e"), ((4, (), 1), (5, (), 1))))
        self.assertEqual(plan_of(Book((("z", "use", "z"),)), (), (9,)), ((), ()))

    def test_a_folder_is_no_made_path(self):
        book = Book((("a", "names", "b"), ("b", "size", "s")))
        self.assertEqual(plan_of(book, (("s", ""),), (1, 2)), (("a", "b"), ((1, (), 1), (2, (), 1))))
        self.assertEqual(plan_of(book, (("b", "file"), ("s", "")), (1, 2)), (("a", "b"), ((1, (), 1), (2, (), 1))))

    def test_the_least_order(self):
        book = Book((("a", "size", "d"), ("b", "size", "s"), ("c", "size", "b"), ("d", "size", "s")))
        self.assertEqual(plan_of(book, (("s", ""),), (1, 1, 1, 1))[0], ("b", "c", "d", "a"))

    def test_eight_rules(self):
        rules = [(f"m{number}", "sort", f"m{number + 1}") for number in range(7)] + [("m7", "sort", "s")]
        paths, plan = plan_of(Book(tuple(rules)), (("s", ""),), (99,) * 8)
        self.assertEqual(paths, tuple([f"m{number}" for number in reversed(range(8))]))
        self.assertEqual(plan, ((99, (), 1),) + tuple([(99, (number,), 1) for number in range(7)]))
        self.assertEqual(least_end(plan, 4, 4), 792)

    def test_against_all_orders(self):
        dice = random.Random(25)
        sizes = {}
        for _ in range(300):
            book, tree = some_book(dice), some_tree(dice, FILES)
            lengths = tuple([dice.randint(1, 99) for _ in book.rules])
            with self.subTest(book.rules, tree=tree):
                found = plan_of(book, tree, lengths)
                self.assertEqual(found, plan_model(book, tree, lengths))
                sizes[len(found[0])] = True
        self.assertEqual(sorted(sizes), list(range(len(MADE) + 1)))


class Wrong(unittest.TestCase):
    def test_books_and_trees(self):
        for value in STRANGE + ("", (), BOOK.rules, [BOOK], (BOOK,)):
            with self.subTest(value=value):
                self.assertEqual(fault(plan_of, value, None, None), (BadBook, {}))
        for value in STRANGE + ("", [], (("a", "x"), None)):
            index = None if not isinstance(value, tuple) else (0 if value[0] != ("a", "x") else 1)
            with self.subTest(value=value):
                self.assertEqual(fault(plan_of, BOOK, value, None), (BadTree, {"index": index}))

    def test_lengths(self):
        wrong = STRANGE + ("", (), "11", [1, 1], (1,), (1, 1, 1), (0, 1), (1, 100), (1, -1), (1, True), (False, 1),
                           (1, "1"), (1, None), (1, (1,)), ((1, 1),), {0: 1, 1: 1}, range(1, 3), (1, 10 ** 40))
        for value in wrong:
            with self.subTest(value=value):
                self.assertEqual(fault(plan_of, BOOK, TREE, value), (BadLengths, {}))
        self.assertEqual(fault(plan_of, Book(()), TREE, (1,)), (BadLengths, {}))
        self.assertEqual(fault(plan_of, Book(()), TREE, []), (BadLengths, {}))
        for value in ((1, 1), (99, 99), (1, 99)):
            self.assertEqual(fault(plan_of, BOOK, TREE, value)[0], "returned")


if __name__ == "__main__":
    unittest.main()
