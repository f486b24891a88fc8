"""Point 14: shops, and what is asked about all rows of their steps, held against all short rows."""

import itertools
import random
import unittest

from buildroom.books import Book
from buildroom.builders import Builder
from buildroom.errors import BadAims, BadBooks, BadRow, BadShop, BadSteps, BadTree, BadWay
from buildroom.shops import Shop, always_right, first_apart, first_needless, first_wrong, follow, left_by
from tests.chance import FILES, MADE, some_aims, some_book, some_step, some_tree
from tests.helpers import STRANGE, fault

WAYS = ("always", "moments", "records", "whole")
BUILD = ("build",)
SORT = (Book((("out", "sort", "a"),)),)
CHAIN = (Book((("mid", "sort", "a"), ("out", "join", ("mid", "b")))),)
TREE = (("a", "y\nx"), ("b", "!"))


def shop_of(*steps, books=CHAIN, tree=TREE, aims=("out",)):
    return Shop(books, tree, aims, steps)


def rows(steps, most):
    """All rows of at most so many steps, the shorter first, then the lesser."""
    return [row for many in range(most + 1) for row in itertools.product(range(len(steps)), repeat=many)]


def searched(books, tree, aims, steps, ways, ends, most):
    """The first row of at most so many steps for which ends tells so, done by builders."""
    for row in rows(steps, most):
        if row:
            ahead = [Builder(books, tree, aims, way) for way in ways]
            for number in row[:-1]:
                for builder in ahead:
                    builder.do(steps[number])
            behind = [builder.copy() for builder in ahead]
            if ends(steps[row[-1]], [builder.do(steps[row[-1]]) for builder in behind], ahead, behind):
                return row
    return None


def wrong(step, ran, ahead, behind):
    return step == BUILD and not behind[0].right()


def needless(step, ran, ahead, behind):
    return step == BUILD and any(pair in ahead[0].lying and pair[0] in ran[0] for pair in behind[0].lying)


def apart(step, ran, ahead, behind):
    return step[0] in ("build", "cut") and (ran[0] != ran[1] or behind[0].lying != behind[1].lying)


class Questions(unittest.TestCase):
    def ask(self, shop, **answers):
        """What the four questions answer, by each way that is named."""
        for name, (first, always, second) in answers.items():
            with self.subTest(name, steps=shop.steps):
                self.assertEqual(first_wrong(shop, name), first)
                self.assertIs(always_right(shop, name), always)
                self.assertEqual(first_needless(shop, name), second)

    def test_the_empty_shop(self):
        self.ask(shop_of(), **{way: (None, True, None) for way in WAYS})
        for one, other in itertools.product(WAYS, WAYS):
            self.assertIsNone(first_apart(shop_of(), one, other))

    def test_builds_alone(self):
        self.ask(shop_of(BUILD), always=(None, True, (0, 0)), moments=(None, True, None), records=(None, True, None),
                 whole=(None, True, None))

    def test_no_builds(self):
        shop = shop_of(("spoil", "out", "?"), ("back", "b", "?"), ("cut", 0))
        self.ask(shop, **{way: (None, True, None) for way in WAYS})
        self.assertEqual(first_apart(shop, "always", "moments"), (2,))
        self.assertIsNone(first_apart(shop, "records", "whole"))

    def test_a_file_that_is_put_back(self):
        self.ask(shop_of(BUILD, ("back", "b", "?"), ("touch", "b")), always=(None, True, (0, 0)),
                 moments=((0, 1, 0), False, (0, 2, 0)),
                 records=(None, True, None), whole=(None, True, None))

    def test_what_is_spoiled(self):
        self.ask(shop_of(("spoil", "mid", "?"), BUILD), always=(None, True, (1, 1)),
                 moments=((0, 1), False, (0, 1, 0, 1)),
                 records=((1, 0, 1), False, None), whole=(None, True, None))

    def test_a_touch_runs_rules_needlessly_by_moments(self):
        self.ask(shop_of(("touch", "a"), BUILD), always=(None, True, (1, 1)), moments=(None, True, (1, 0, 1)),
                 records=(None, True, None),
                 whole=(None, True, None))

    def test_swaps(self):
        books = CHAIN + (Book((("mid", "join", ("a",)), ("out", "join", ("mid", "b")))),)
        self.ask(shop_of(BUILD, ("swap", 1), books=books), always=(None, True, (0, 0)),
                 moments=((0, 1, 0), False, None),
                 records=((0, 1, 0), False, None), whole=(None, True, None))

    def test_names(self):
        books = (Book((("out", "names", ""),)),)
        self.ask(shop_of(("drop", "a"), BUILD, books=books), always=(None, True, (1, 1)),
                 moments=((1, 0, 1), False, None), records=(None, True, None))

    def test_cuts(self):
        self.ask(shop_of(("cut", 0), BUILD), always=(None, True, (0, 1)), moments=((0, 1), False, None),
                 records=(None, True, None), whole=(None, True, None))
        self.ask(shop_of(("cut", 1), BUILD), always=(None, True, (1, 1)), moments=((0, 1), False, None),
                 records=(None, True, None), whole=(None, True, None))
        self.ask(shop_of(("cut", 2), BUILD), always=(None, True, (0, 1)), moments=(None, True, None),
                 records=(None, True, None), whole=(None, True, None))

    def test_a_file_that_is_put_back_in_a_cut_off_build(self):
        steps = (("cut", 0), ("write", "a", "longer"), BUILD)
        self.ask(shop_of(*steps, books=SORT), always=(None, True, (2, 2)), moments=((0, 2), False, (1, 2, 1, 2)),
                 whole=(None, True, None))

    def test_apart(self):
        shop = shop_of(BUILD, ("back", "b", "?"), ("touch", "b"))
        for one, other, row in (("always", "records", (0, 0)), ("always", "moments", (0,)), ("records", "whole", None),
                                ("moments", "records", (0,)), ("whole", "always", (0, 0)), ("whole", "whole", None)):
            self.assertEqual(first_apart(shop, one, other), row)
        self.assertEqual(first_apart(shop_of(("spoil", "out", ""), ("cut", 5)), "records", "whole"), (1, 0, 1))
        self.assertEqual(first_apart(shop_of(("spoil", "out", ""), BUILD), "records", "whole"), (1, 0, 1))
        self.assertIsNone(first_apart(shop_of(("lose", "out"), BUILD), "records", "whole"))

    def test_benches_that_stand_alike_but_for_their_records(self):
        # Behind (0, 1) and (1, 0) the same lies, made of the same tree or of another one: just the second runs again.
        shop = shop_of(("write", "a", "x\ny"), BUILD, books=SORT, tree=TREE[:1])
        self.ask(shop, records=(None, True, (1, 0, 1)), whole=(None, True, (1, 0, 1)), moments=(None, True, (1, 0, 1)))
        self.assertEqual(first_apart(shop, "records", "moments"), (0, 1, 0, 1))

    def test_benches_that_stand_alike_but_for_their_rules(self):
        # Both rules look at the same, and make the same.
        books = SORT + (Book((("out", "join", ("a",)),)),)
        shop = shop_of(("swap", 1), BUILD, books=books, tree=(("a", "x"),))
        self.ask(shop, records=(None, True, None), whole=(None, True, (1, 0, 1)), moments=(None, True, None),
                 always=(None, True, (1, 1)))
        self.assertEqual(first_apart(shop, "records", "whole"), (1, 0, 1))

    def test_benches_that_stand_alike_but_for_their_moments(self):
        shop = shop_of(("touch", "a"), BUILD, ("touch", "b"), books=SORT, tree=TREE)
        self.ask(shop, moments=(None, True, (1, 0, 1)))
        shop = shop_of(BUILD, ("spoil", "mid", "x\ny"), ("lose", "out"))
        self.ask(shop, moments=(None, True, (0, 1, 0)), records=(None, True, (1, 0)))

    def test_by_moments_who_tells_one_that_fell_to_a_ring_falls_too(self):
        # o makes its text of b alone, but tells m, which is a ring: it falls, whether m is an aim ahead of it or not.
        books = (Book((("m", "size", "m"), ("o", "choose", "a", "m", "b"))),)
        for aims in (("m", "o"), ("o",)):
            shop = shop_of(("write", "a", "no"), BUILD, books=books, tree=TREE, aims=aims)
            self.ask(shop, moments=((1,), False, None), whole=(None, True, (1, 0, 1)))
            self.assertEqual(first_apart(shop, "moments", "records"), (1,))
            self.assertEqual([follow(shop, "moments", (1, 0, 1)), left_by(shop, "moments", (1, 1))],
                             [[(), (), ()], (TREE, ())])

    def test_texts_that_grow_from_build_to_build(self):
        # Each book makes one text of the other one, with more signs, until there would be more than 400.
        one = Book((("x", "sort", "s"), ("y", "join", ("x", "x", "x", "t"))))
        other = Book((("x", "join", ("y", "y", "t")), ("y", "sort", "s")))
        shop = Shop((one, other), (("s", "q"), ("t", "z" * 10)), ("y",), (("swap", 0), ("swap", 1), BUILD))
        self.assertEqual(first_wrong(shop, "moments"), (2, 1, 2))
        self.assertIsNone(first_needless(shop, "moments"))
        self.assertIsNone(first_wrong(shop, "whole"))

    def test_against_all_short_rows(self):
        dice = random.Random(14)
        found = {}
        for number in range(70):
            many, most = dice.choice(((1, 7), (2, 6), (2, 6), (3, 4), (3, 4)))
            # Shops of three steps are asked only without rules of the kind use.
            kinds = ("join", "size", "sort", "pick", "names", "choose", "need") + (("use",) if many < 3 else ())
            books = tuple([some_book(dice, kinds=kinds) for _ in range(dice.randint(1, 2))])
            tree, aims = some_tree(dice, FILES), some_aims(dice, MADE)
            steps = (BUILD,) + tuple([some_step(dice, MADE, len(books)) for _ in range(many - 1)])
            shop = Shop(books, tree, aims, steps)
            with self.subTest(books=[book.rules for book in books], tree=tree, aims=aims, steps=steps):
                for way in WAYS:
                    for call, ends in ((first_wrong, wrong), (first_needless, needless)):
                        row = searched(books, tree, aims, steps, (way,), ends, most)
                        self.hold(call(shop, way), row, most)
                        found[call, row is None] = True
                    self.assertIs(always_right(shop, way), first_wrong(shop, way) is None)
                one, other = dice.sample(WAYS, 2)
                row = searched(books, tree, aims, steps, (one, other), apart, most)
                self.hold(first_apart(shop, one, other), row, most)
                self.assertEqual(first_apart(shop, other, one), first_apart(shop, one, other))
                found[first_apart, row is None] = True
        self.assertEqual(len(found), 6)

    def hold(self, answer, row, most):
        """An answer is the row that a search through the short rows found, or longer than these, if it found none."""
        if row is None:
            self.assertTrue(answer is None or len(answer) > most, answer)
        else:
            self.assertEqual(answer, row)


class Rows(unittest.TestCase):
    def test_follow_and_left_by(self):
        shop = shop_of(BUILD, ("write", "a", "3\n2"), ("drop", "b"), ("cut", 0))
        self.assertEqual(follow(shop, "records", ()), [])
        self.assertEqual(left_by(shop, "records", ()), (TREE, ()))
        self.assertEqual(follow(shop, "records", (0, 1, 0, 2, 0, 0)),
                         [("out", "mid"), (), ("mid", "out"), (), ("out",), ()])
        self.assertEqual(left_by(shop, "records", (0, 1, 0)),
                         ((("a", "3\n2"), ("b", "!")), (("mid", "2\n3"), ("out", "2\n3!"))))
        self.assertEqual(left_by(shop, "records", (0, 2, 0, 1)), ((("a", "3\n2"),), (("mid", "x\ny"),)))
        self.assertEqual([follow(shop, "moments", (3, 0)), left_by(shop, "moments", (3,))],
                         [[("mid",), ("out",)], (TREE, (("mid", "x"),))])

    def test_rows_of_any_length(self):
        shop = shop_of(BUILD, ("touch", "b"))
        self.assertEqual(follow(shop, "moments", (0, 1) * 500), [("mid", "out"), ()] + [("out",), ()] * 499)
        self.assertEqual(left_by(shop, "moments", (0, 1) * 500), (TREE, (("mid", "x\ny"), ("out", "x\ny!"))))

    def test_rows_are_done_by_builders(self):
        dice = random.Random(15)
        for _ in range(60):
            books = tuple([some_book(dice) for _ in range(2)])
            tree, aims = some_tree(dice), some_aims(dice, MADE)
            steps = tuple([some_step(dice, MADE, 2) for _ in range(8)])
            row = tuple([dice.randrange(8) for _ in range(dice.randint(0, 12))])
            for way in WAYS:
                builder = Builder(books, tree, aims, way)
                self.assertEqual(follow(Shop(books, tree, aims, steps), way, row),
                                 [builder.do(steps[number]) for number in row])
                self.assertEqual(left_by(Shop(books, tree, aims, steps), way, row), (builder.tree, builder.lying))

    def test_a_row_changes_nothing_of_the_shop(self):
        shop = shop_of(BUILD, ("write", "a", "3"))
        for _ in range(2):
            self.assertEqual(follow(shop, "whole", (0, 1, 0)), [("out", "mid"), (), ("mid", "out")])
            self.assertEqual(first_wrong(shop, "whole"), None)
        self.assertEqual(shop, shop_of(BUILD, ("write", "a", "3")))


class Shops(unittest.TestCase):
    def test_steps(self):
        for steps in ((), (BUILD,), (BUILD,) * 8, (("swap", 0), ("cut", 20), ("write", "mid/x", ""))):
            self.assertEqual(shop_of(*steps).steps, steps)
        self.assertIsInstance(vars(Shop)["steps"], property)
        self.assertIn("__eq__", vars(Shop))

    def test_equality(self):
        shop = shop_of(BUILD, ("drop", "a"))
        self.assertTrue(shop == Shop((Book(CHAIN[0].rules),), tuple(list(TREE)), ("out",), (BUILD, ("drop", "a"))))
        self.assertFalse(shop != shop_of(BUILD, ("drop", "a")))
        for other in (shop_of(BUILD), shop_of(("drop", "a"), BUILD), shop_of(BUILD, ("drop", "a"), aims=()),
                      shop_of(BUILD, ("drop", "a"), tree=()),
                      shop_of(BUILD, ("drop", "a"), books=CHAIN * 2),
                      shop_of(BUILD, ("drop", "a"), books=(Book(CHAIN[0].rules[::-1]),))):
            self.assertFalse(shop == other)
            self.assertTrue(shop != other)
        for value in STRANGE + ((BUILD, ("drop", "a")), CHAIN, ""):
            self.assertFalse(shop == value)
            self.assertFalse(value == shop)

    def test_wrong_steps(self):
        for value in STRANGE + ("", [BUILD], BUILD, {0: BUILD}, (BUILD,) * 9, (None,) * 9):
            index = 0 if isinstance(value, tuple) and len(value) < 9 else None
            with self.subTest(value=value):
                self.assertEqual(fault(Shop, CHAIN, TREE, ("out",), value), (BadSteps, {"index": index}))
        for thing in STRANGE + ((), ("cut", 21), ("swap", 1), ("write", "mid", ""), ("lose", "a"), ("build", 1),
                                ["build"], ("cut", True)):
            self.assertEqual(fault(Shop, CHAIN, TREE, ("out",), (BUILD, thing, None)), (BadSteps, {"index": 1}))
            self.assertEqual(fault(Shop, CHAIN, TREE, ("out",), (BUILD,) * 7 + (thing,)), (BadSteps, {"index": 7}))

    def test_which_error_comes_first(self):
        self.assertEqual(fault(Shop, None, None, None, None), (BadBooks, {"index": None}))
        self.assertEqual(fault(Shop, CHAIN + (None,), None, None, None), (BadBooks, {"index": 1}))
        self.assertEqual(fault(Shop, CHAIN, (None,), None, None), (BadTree, {"index": 0}))
        self.assertEqual(fault(Shop, CHAIN, TREE, ("out", "mid"), None), (BadAims, {}))
        self.assertEqual(fault(Shop, CHAIN, TREE, ("a",), (None,)), (BadAims, {}))
        self.assertEqual(fault(Shop, CHAIN, TREE, ("out",), [BUILD]), (BadSteps, {"index": None}))

    def test_any_value_of_a_shop_a_way_and_a_row(self):
        shop = shop_of(BUILD, ("drop", "a"))
        for value in STRANGE + ("", (), Builder(CHAIN, TREE, (), "whole")):
            with self.subTest(value=value):
                for call in (first_wrong, first_needless, always_right):
                    self.assertEqual(fault(call, value, "no"), (BadShop, {}))
                    self.assertEqual(fault(call, shop, value), (BadWay, {}))
                self.assertEqual(fault(first_apart, value, "no", "no"), (BadShop, {}))
                self.assertEqual(fault(first_apart, shop, value, "always"), (BadWay, {}))
                self.assertEqual(fault(first_apart, shop, "always", value), (BadWay, {}))
                for call in (follow, left_by):
                    self.assertEqual(fault(call, value, "no", None), (BadShop, {}))
                    self.assertEqual(fault(call, shop, value, None), (BadWay, {}))
                    if value != ():
                        self.assertEqual(fault(call, shop, "always", value), (BadRow, {}))
                    if isinstance(value, bool) or value not in (0, 1):
                        self.assertEqual(fault(call, shop, "always", (0, value)), (BadRow, {}))
        for row in ((2,), (0, -1), (0, True), (False,), [0], ("0",), ((0,),), (0, None), range(2), {0: 1}, (10 ** 40,)):
            for call in (follow, left_by):
                self.assertEqual(fault(call, shop, "always", row), (BadRow, {}))
        self.assertEqual(fault(follow, shop_of(), "always", (0,)), (BadRow, {}))
        self.assertEqual(fault(follow, shop_of(), "always", ()), ("returned", []))


if __name__ == "__main__":
    unittest.main()
