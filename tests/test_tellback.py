"""Points 31 to 33: rows of steps, books and cut off builds that are told back from what is seen."""

import itertools
import random
import unittest

from buildroom.books import Book
from buildroom.builders import Builder
from buildroom.errors import BadAims, BadBooks, BadMost, BadSeen, BadShop, BadTree, BadWay
from buildroom.running import clean
from buildroom.shops import Shop
from buildroom.tellback import (cut_kinds, explained, least_explained, sure_done, sure_files, sure_runs, which_books,
                                which_cuts)
from tests.chance import MADE, some_aims, some_book, some_step, some_tree
from tests.helpers import STRANGE, fault

WAYS = ("always", "moments", "records", "whole")
BUILD = ("build",)
BOOK = Book((("mid", "sort", "a"), ("out", "join", ("mid", "b"))))
TREE = (("a", "y\nx"), ("b", "!"))
BUILT = (("mid", "x\ny"), ("out", "x\ny!"))
OF_ROWS = (explained, least_explained, sure_done, sure_runs, sure_files)
NO_INTEGERS = tuple([value for value in STRANGE if not isinstance(value, int) or isinstance(value, bool)])


def shop_of(*steps, books=(BOOK,), tree=TREE, aims=("out",)):
    return Shop(books, tree, aims, steps)


def all_told(shop, way, most, seen):
    return [call(shop, way, most, seen) for call in OF_ROWS]


def model(books, tree, aims, steps, way, most, seen):
    """What the five functions tell, by builders that do all rows."""
    rows, ran, trees = [], [], []
    for many in range(most + 1):
        for row in itertools.product(range(len(steps)), repeat=many):
            builder = Builder(books, tree, aims, way)
            runs = [made for number in row for made in builder.do(steps[number])]
            if builder.lying == seen:
                rows.append(row)
                ran.append(set(runs))
                trees.append(set(builder.tree))
    if not rows:
        return [[], None, None, None, None]
    return [rows, rows[0], sorted(set.intersection(*map(set, rows))), sorted(set.intersection(*ran)),
            tuple(sorted(set.intersection(*trees)))]


class Rows(unittest.TestCase):
    def test_nothing_is_done(self):
        shop = shop_of(BUILD, ("write", "a", "z"))
        for way in WAYS:
            self.assertEqual(all_told(shop, way, 0, ()), [[()], (), [], [], TREE])
            self.assertEqual(all_told(shop, way, 0, BUILT), [[], None, None, None, None])
        self.assertEqual(all_told(shop_of(), "always", 3, ()), [[()], (), [], [], TREE])
        self.assertEqual(all_told(shop_of(), "always", 3, BUILT), [[], None, None, None, None])

    def test_the_shorter_first_then_the_lesser(self):
        shop = shop_of(("write", "c", ""), BUILD)
        self.assertEqual(explained(shop, "whole", 0, BUILT), [])
        self.assertEqual(explained(shop, "whole", 1, BUILT), [(1,)])
        self.assertEqual(explained(shop, "whole", 2, BUILT), [(1,), (0, 1), (1, 0), (1, 1)])
        self.assertEqual(explained(shop, "whole", 3, BUILT),
                         [(1,), (0, 1), (1, 0), (1, 1), (0, 0, 1), (0, 1, 0), (0, 1, 1), (1, 0, 0), (1, 0, 1), (1, 1, 0),
                          (1, 1, 1)])
        self.assertEqual(all_told(shop, "whole", 3, BUILT)[1:], [(1,), [1], ["mid", "out"], TREE])

    def test_just_what_is_seen_lies(self):
        shop = shop_of(BUILD, ("lose", "mid"), ("spoil", "mid", ""))
        self.assertEqual(explained(shop, "always", 2, BUILT[1:]), [(0, 1)])
        self.assertEqual(explained(shop, "always", 2, BUILT[:1]), [])
        self.assertEqual(explained(shop, "always", 2, (("mid", ""),)), [(2,), (1, 2), (2, 2)])
        self.assertEqual(explained(shop, "always", 3, BUILT + (("z", ""),)), [])

    def test_what_is_sure(self):
        steps = (("write", "a", "1"), ("drop", "b"), BUILD)
        shop = shop_of(*steps)
        # Behind both edits: mid alone lies. Which of them came first is not sure.
        self.assertEqual(all_told(shop, "whole", 3, (("mid", "1"),)),
                         [[(0, 1, 2), (1, 0, 2)], (0, 1, 2), [0, 1, 2], ["mid", "out"], (("a", "1"),)])
        self.assertEqual(all_told(shop, "whole", 2, (("mid", "x\ny"),)), [[(1, 2)], (1, 2), [1, 2], ["mid", "out"], TREE[:1]])

    def test_ways_are_told_apart(self):
        shop = shop_of(BUILD, ("back", "b", "?"))
        seen = (("mid", "x\ny"), ("out", "x\ny?"))
        self.assertEqual(explained(shop, "whole", 3, seen), [(1, 0), (0, 1, 0), (1, 0, 0), (1, 0, 1), (1, 1, 0)])
        self.assertEqual(explained(shop, "moments", 3, seen), [(1, 0), (1, 0, 0), (1, 0, 1), (1, 1, 0)])

    def test_runs_that_fall_to_a_ring_and_runs_that_are_cut_off_ran(self):
        ring = shop_of(BUILD, books=(Book((("mid", "size", "mid"), ("out", "size", "a"))),), aims=("mid", "out"))
        self.assertEqual(sure_runs(ring, "always", 1, (("out", "3"),)), ["mid", "out"])
        shop = shop_of(("cut", 0), books=(Book((("out", "size", "a"),)),))
        self.assertEqual(sure_runs(shop, "always", 1, (("out", ""),)), ["out"])

    def test_steps_that_could_not_be_done_stand_in_rows(self):
        self.assertEqual(explained(shop_of(("drop", "c")), "always", 3, ()), [(), (0,), (0, 0), (0, 0, 0)])

    def test_eight_steps_of_three(self):
        steps = (BUILD,) * 8
        self.assertEqual(len(explained(shop_of(*steps), "always", 3, BUILT)), 8 + 64 + 512)

    def test_against_all_rows(self):
        dice = random.Random(31)
        many = {}
        for number in range(60):
            books = tuple([some_book(dice) for _ in range(dice.randint(1, 2))])
            tree, aims, way = some_tree(dice), some_aims(dice, MADE), WAYS[number % 4]
            steps = (BUILD,) + tuple([some_step(dice, MADE, len(books)) for _ in range(dice.randint(0, 3))])
            builder = Builder(books, tree, aims, way)
            for _ in range(dice.randint(0, 2)):
                builder.do(dice.choice(steps))
            for seen in (builder.lying, (), (("a", "?"),)):
                most = dice.randint(0, 3)
                with self.subTest(books=[book.rules for book in books], tree=tree, aims=aims, steps=steps, seen=seen):
                    found = all_told(Shop(books, tree, aims, steps), way, most, seen)
                    self.assertEqual(found, model(books, tree, aims, steps, way, most, seen))
                    many[len(found[0]) > 0] = True
        self.assertEqual(len(many), 2)


class Books(unittest.TestCase):
    books = (BOOK, Book((("mid", "join", ("a",)), ("out", "join", ("mid", "b")))), Book((("mid", "sort", "a"),
                                                                                         ("out", "size", "out"))))

    def test_at_the_aims_alone(self):
        tree = (("a", "x\ny"), ("b", "!"))
        for aims, seen, numbers in ((("mid", "out"), BUILT, [0, 1]), (("mid",), BUILT, [0, 1, 2]), ((), BUILT, [0, 1, 2]),
                                    (("out",), BUILT[1:], [0, 1]), (("mid", "out"), BUILT[:1], [2]),
                                    (("mid", "out"), BUILT[1:], []), (("out",), (), [2]), ((), (), [0, 1, 2]),
                                    (("mid",), (("a", "?"), ("mid", "x\ny"), ("z", "")), [0, 1, 2])):
            self.assertEqual(which_books(self.books, tree, aims, seen), numbers)
        self.assertEqual(which_books(self.books, TREE, ("mid",), BUILT), [0, 2])

    def test_outcomes_without_texts(self):
        for rule in (("m", "size", "no"), ("m", "size", "m"), ("m", "need", "a", "q"), ("m", "join", ("a", "a", "a"))):
            books = (Book((rule,)), Book((("m", "join", ()),)))
            tree = (("a", "z" * 200),)
            self.assertEqual([which_books(books, tree, ("m",), ()), which_books(books, tree, ("m",), (("m", ""),))],
                             [[0], [1]])

    def test_against_clean_builds(self):
        dice = random.Random(33)
        for _ in range(100):
            books = tuple([some_book(dice) for _ in range(3)])
            tree, aims = some_tree(dice), some_aims(dice, MADE)
            texts = [dict(clean(book, tree)) for book in books]
            texts = [{aim: told[aim][1] for aim in aims if told[aim][0] == "text"} for told in texts]
            for book in range(3):
                seen = tuple(sorted(texts[book].items()))
                self.assertEqual(which_books(books, tree, aims, seen),
                                 [number for number in range(3) if texts[number] == texts[book]])


class Cuts(unittest.TestCase):
    def test_each_run(self):
        for way, mid, out in (("always", 1, 0), ("moments", 0, 1), ("records", 1, 0), ("whole", 1, 0)):
            half_of_mid, half_of_out = (("mid", "x"),), (BUILT[0], ("out", "x\n"))
            self.assertEqual(which_cuts((BOOK,), TREE, ("out",), way, half_of_mid), [mid])
            self.assertEqual(which_cuts((BOOK,), TREE, ("out",), way, half_of_out), [out])
            self.assertEqual(which_cuts((BOOK,), TREE, ("out",), way, BUILT), [])
            self.assertEqual(which_cuts((BOOK,), TREE, ("out",), way, ()), [])
            self.assertEqual(cut_kinds((BOOK,), TREE, ("out",), way), [[0], [1]])

    def test_no_runs(self):
        self.assertEqual([cut_kinds((BOOK,), TREE, (), "always"), which_cuts((BOOK,), TREE, (), "always", ())], [[], []])
        ring = Book((("m", "size", "m"),))
        self.assertEqual([cut_kinds((ring,), (), ("m",), "moments"), which_cuts((ring,), (), ("m",), "moments", ())],
                         [[], []])

    def test_runs_that_fall_to_a_ring_are_among_them(self):
        ring = Book((("m", "size", "m"), ("n", "sort", "a"), ("o", "size", "o")))
        self.assertEqual(cut_kinds((ring,), TREE, ("m", "n", "o"), "always"), [[0, 2], [1]])
        self.assertEqual(which_cuts((ring,), TREE, ("m", "n", "o"), "whole", (("n", "x\ny"),)), [0, 2])
        self.assertEqual(which_cuts((ring,), TREE, ("m", "n", "o"), "whole", (("n", "x"),)), [1])
        self.assertEqual(cut_kinds((ring,), TREE, ("m", "n", "o"), "moments"), [[0]])

    def test_runs_without_texts_leave_the_same(self):
        book = Book((("m", "need", "a", "q"), ("n", "size", "no"), ("o", "join", ())))
        self.assertEqual(cut_kinds((book,), TREE, ("m", "n", "o"), "records"), [[0, 1], [2]])
        self.assertEqual(which_cuts((book,), TREE, ("m", "n", "o"), "records", ()), [0, 1])
        self.assertEqual(which_cuts((book,), TREE, ("m", "n", "o"), "records", (("o", ""),)), [2])

    def test_the_first_book_counts(self):
        other = Book((("mid", "size", "a"), ("out", "size", "a")))
        self.assertEqual(cut_kinds((other, BOOK), TREE, ("mid", "out"), "whole"), [[0], [1]])
        self.assertEqual(which_cuts((other, BOOK), TREE, ("out",), "whole", (("out", ""),)), [0])
        self.assertEqual(which_cuts((BOOK, other), TREE, ("out",), "whole", (("out", ""),)), [])

    def test_against_builders(self):
        dice = random.Random(34)
        shared = 0
        for number in range(120):
            books, tree, aims = (some_book(dice), some_book(dice)), some_tree(dice), some_aims(dice, MADE)
            way, left = WAYS[number % 4], []
            for at in range(len(Builder(books, tree, aims, way).do(BUILD))):
                builder = Builder(books, tree, aims, way)
                builder.do(("cut", at))
                left.append(builder.lying)
            kinds = cut_kinds(books, tree, aims, way)
            self.assertEqual(kinds, [[at for at in range(len(left)) if left[at] == lies] for lies in dict.fromkeys(left)])
            shared += len(kinds) < len(left)
            for seen in left + [()]:
                self.assertEqual(which_cuts(books, tree, aims, way, seen),
                                 [at for at in range(len(left)) if left[at] == seen])
        self.assertGreater(shared, 10)


class Wrong(unittest.TestCase):
    def seen(self, call):
        """A call with one argument, seen, is held against all wrong values of it."""
        for value in STRANGE + ("", [], [("a", "x")], {"a": "x"}):
            with self.subTest(value=value):
                self.assertEqual(fault(call, value), (BadSeen, {"index": 0 if isinstance(value, tuple) else None}))
        wrong = STRANGE + ((), "", "ab", ("b",), ("b", "x", "y"), ["b", "x"], {"b": "x"}, ("", "x"), ("B", "x"), ("b", None),
                           ("b", "z" * 401), ("b", "\t"), ("b", ["x"]), (None, "x"), (["b"], "x"), ("a", "x"), ("a", "z"),
                           ("0", ""), ("b/c/d/e", ""))
        for thing in wrong:
            with self.subTest(thing=thing):
                self.assertEqual(fault(call, (("a", "x"), thing, None)), (BadSeen, {"index": 1}))
        many = tuple([(f"p{number:03}", "") for number in range(200)])
        self.assertEqual(fault(call, many)[0], "returned")
        self.assertEqual(fault(call, many + (("p199", ""),)), (BadSeen, {"index": 200}))
        for seen in ((), (("a", ""),), (("a", "z" * 400), ("a/b", "\n ~"), ("a/b/c", ""))):
            self.assertEqual(fault(call, seen)[0], "returned")

    def test_of_rows(self):
        shop = shop_of(BUILD)
        for call in OF_ROWS:
            self.seen(lambda seen: call(shop, "whole", 1, seen))
            for value in STRANGE + ("", (), BOOK, [shop], (shop,)):
                self.assertEqual(fault(call, value, None, None, None), (BadShop, {}))
            for value in STRANGE + ("", (), "Whole", ["whole"], ("whole",)):
                self.assertEqual(fault(call, shop, value, None, None), (BadWay, {}))
            for value in NO_INTEGERS + (-1, 4, 10 ** 40, "", "1", (1,)):
                self.assertEqual(fault(call, shop, "whole", value, None), (BadMost, {}))
            for value in (0, 1, 2, 3):
                self.assertEqual(fault(call, shop, "whole", value, None), (BadSeen, {"index": None}))

    def test_of_books_and_cuts(self):
        books, aims = (BOOK,), ("out",)
        self.seen(lambda seen: which_books(books, TREE, aims, seen))
        self.seen(lambda seen: which_cuts(books, TREE, aims, "whole", seen))
        calls = (which_books, lambda *told: which_cuts(*told, None), cut_kinds)
        for call in calls:
            for value in STRANGE + ("", [], BOOK, (BOOK,) * 4, ()):
                index = 0 if isinstance(value, tuple) and 1 <= len(value) <= 3 else None
                self.assertEqual(fault(call, value, None, None, None), (BadBooks, {"index": index}))
            self.assertEqual(fault(call, (BOOK, None), None, None, None), (BadBooks, {"index": 1}))
            for value in STRANGE + ("", []):
                index = 0 if isinstance(value, tuple) else None
                self.assertEqual(fault(call, books, value, None, None), (BadTree, {"index": index}))
            for value in STRANGE + ("", ["out"], ("out", "mid"), ("out", "out"), ("a",), {"out": 1}, (["out"],)):
                self.assertEqual(fault(call, books, TREE, value, None), (BadAims, {}))
        for value in STRANGE + ("", (), "Whole", ["whole"]):
            self.assertEqual(fault(which_cuts, books, TREE, aims, value, None), (BadWay, {}))
            self.assertEqual(fault(cut_kinds, books, TREE, aims, value), (BadWay, {}))


if __name__ == "__main__":
    unittest.main()
