"""Point 1: what every function keeps to. Each call of CALLS is one that returns."""

import copy
import unittest

from buildroom.books import Book, depths, made_paths, right_order, right_ring, told_order, told_ring
from buildroom.builders import Builder
from buildroom.caches import Store, true_entry
from buildroom.errors import (BadAims, BadBook, BadBooks, BadEntries, BadKind, BadLength, BadMade, BadNumber, BadPath,
                              BadRecord,
                              BadRequests, BadRow, BadRule, BadRules, BadShelf, BadShop, BadStep, BadSteps, BadThings,
                              BadTree,
                              BadWay, RoomError)
from buildroom.leads import lead, lead_by_length, lead_count, lead_loop, lead_paper, lead_row, lead_shows
from buildroom.paths import differing, names_in, put, taken, text_at
from buildroom.records import blunt_replays, blunted, first_changed, replays, right_record, told_by
from buildroom.running import clean, reads_behind, run
from buildroom.shelves import shelf_course, shelf_hits, shelf_lies
from buildroom.shops import Shop, always_right, first_apart, first_needless, first_wrong, follow, left_by
from tests.helpers import fault

TREE = (("a", "x"), ("lib/b", "y"))
OTHER = (("a", "z"), ("c", ""))
BOOK = Book((("out", "join", ("a", "mid")), ("mid", "sort", "a")))
RING = Book((("p", "size", "q"), ("q", "size", "p")))
SIZE, RECORD = ("mid", "sort", "a"), (("text", "a", "x"),)
ENTRY = (SIZE, RECORD, "x")
BUILD = ("build",)
SHOP = Shop((BOOK,), TREE, ("out",), (BUILD, ("back", "a", "z"), ("touch", "a")))
ONE, OTHER_SHELF = ("eldest", 1), ("lately", 1)
PAPER = lead_paper(ONE, OTHER_SHELF, 2)


def steps(books, tree, aims, way, row):
    """All that a builder tells behind each step of a row."""
    builder, told = Builder(books, tree, aims, way), []
    for step in row:
        told.append([builder.do(step), builder.number, builder.tree, builder.lying, builder.right(),
                     builder.copy().lying])
    return told


def builds(room, kind, entries, book, trees, aims):
    """All that a store tells behind each build of some trees."""
    store, told = Store(room, kind, entries), []
    for tree in trees:
        told.append([store.build(book, tree, aims), store.near, store.far, len(store), store.copy().forget()])
    return told + [store.forget()]


CALLS = (
    (clean, (BOOK, TREE)), (clean, (RING, TREE)), (run, (BOOK, TREE, "out")), (run, (RING, (), "p")),
         (reads_behind, (BOOK, TREE, "out")),
    (right_record, (SIZE, RECORD)), (right_record, (SIZE, [["text", ["a"], {"x": "x"}]])), (told_by, (SIZE, RECORD)),
    (first_changed, (BOOK, OTHER, SIZE, RECORD)), (replays, (BOOK, TREE, SIZE, RECORD)), (blunted, (SIZE, RECORD)),
    (blunt_replays, (BOOK, OTHER, SIZE, RECORD)),
    (steps, ((BOOK, BOOK), TREE, ("out",), "whole", (BUILD, ("write", "a", "y"), ("swap", 1), ("cut", 0),
                                                     ("spoil", "mid", "z"), BUILD))),
    (steps, ((BOOK,), TREE, ("mid", "out"), "moments", (BUILD, ("back", "a", "y"), ("lose", "mid"), ("forget", "out"),
                                                        ("drop", "a"), BUILD))),
    (first_wrong, (SHOP, "moments")), (first_needless, (SHOP, "always")), (first_apart, (SHOP, "moments", "records")),
    (always_right, (SHOP, "whole")), (follow, (SHOP, "records", (0, 1, 0))), (left_by, (SHOP, "records", (0, 1, 0))),
    (true_entry, (ENTRY,)), (true_entry, ([ENTRY, {"a": [ENTRY]}],)),
         (builds, (1, "lately", (ENTRY,), BOOK, (TREE, OTHER, TREE), ("mid", "out"))),
    (shelf_course, (("best", 2), (0, 1, 2, 0))), (shelf_hits, (("seldom", 2), (0, 1, 0))),
         (shelf_lies, (("newest", 2), (0, 1, 0))),
    (lead, (ONE, OTHER_SHELF, 2)), (lead_row, (ONE, OTHER_SHELF, 2)), (lead_loop, (ONE, ("best", 2), 3)),
         (lead_paper, (ONE, OTHER_SHELF, 2)),
    (lead_shows, (ONE, OTHER_SHELF, 2, 0, PAPER)), (lead_shows, (ONE, OTHER_SHELF, 2, 0, [[PAPER], {0: PAPER}])),
    (lead_by_length, (ONE, ("best", 2), 3, 5)), (lead_count, (ONE, ("best", 2), 3, 5)),
    (text_at, (TREE, "a")), (names_in, (TREE, "")), (put, (TREE, "c", "w")), (taken, (TREE, "a")),
    (differing, (TREE, OTHER)), (Book, (BOOK.rules,)), (made_paths, (BOOK,)), (told_ring, (RING,)),
    (right_ring, (RING, ["p", ["q"]])), (right_ring, (RING, {"p": ["q"]})), (told_order, (BOOK,)),
    (right_order, (BOOK, [["mid"], {"out": 1}])), (right_order, (BOOK, ("mid", ["out"]))), (depths, (BOOK,)),
)
FAILS = (
    (clean, ([BOOK], TREE)), (run, (BOOK, TREE, ["out"])), (reads_behind, (BOOK, [["a", "x"]], "out")),
         (told_by, (["mid", "sort", "a"], RECORD)),
    (first_changed, (BOOK, TREE, SIZE, [["text", "a", "x"]])), (blunted, (SIZE, [RECORD])),
         (right_record, ([SIZE], RECORD)),
    (steps, ([BOOK], TREE, ("out",), "whole", ())), (steps, ((BOOK,), TREE, ["out"], "whole", ())),
         (steps, ((BOOK,), TREE, ("out",), ["whole"], ())),
    (steps, ((BOOK,), TREE, ("out",), "whole", (BUILD, ["build"]))), (Shop, ((BOOK,), TREE, ("out",), [BUILD])),
         (first_wrong, ([SHOP], "whole")),
    (follow, (SHOP, "whole", [0, [1]])), (left_by, (SHOP, ["whole"], ())),
         (builds, (1, "lately", [ENTRY], BOOK, (TREE,), ("mid",))),
    (builds, (1, ["lately"], (ENTRY,), BOOK, (TREE,), ("mid",))),
         (builds, (1, "lately", (ENTRY,), BOOK, ([TREE],), ("mid",))),
    (shelf_course, (["best", 2], (0,))), (shelf_hits, (("best", 2), [0, [1]])), (lead, ([ONE], ONE, 2)),
         (lead_shows, (ONE, ONE, 2, [0], [])),
    (lead_by_length, (ONE, ONE, [1], 2)),
    (text_at, ([["a", "x"]], "a")), (names_in, (TREE, ["a"])), (put, (TREE, "c", {"w": ["w"]})), (taken, (TREE, ["a"])),
    (put, (TREE, "lib", "")), (taken, (TREE, "lib")), (differing, (TREE, [["a"]])), (Book, ([["m", "size", "a"]],)),
    (Book, ((("m", "join", ["a"]),),)), (made_paths, ([BOOK],)), (told_ring, ({"book": [BOOK]},)), (depths, ([[]],)),
)


class Everywhere(unittest.TestCase):
    def test_arguments_are_not_changed(self):
        for call, arguments in CALLS + FAILS:
            with self.subTest(call=call, arguments=arguments):
                before = copy.deepcopy(arguments)
                shown = repr(arguments)
                fault(call, *arguments)
                self.assertEqual(arguments, before)
                self.assertEqual(repr(arguments), shown)

    def test_equal_calls_give_equal_results(self):
        for call, arguments in CALLS + FAILS:
            with self.subTest(call=call, arguments=arguments):
                self.assertEqual(fault(call, *arguments), fault(call, *copy.deepcopy(arguments)))

    def test_these_calls_return_and_those_raise(self):
        for call, arguments in CALLS:
            self.assertEqual(fault(call, *arguments)[0], "returned")
        for call, arguments in FAILS:
            self.assertTrue(issubclass(fault(call, *arguments)[0], RoomError))

    def test_lists_are_new(self):
        for call, arguments in CALLS:
            first = call(*arguments)
            if isinstance(first, list):
                with self.subTest(call=call):
                    kept = list(first)
                    first.append("more")
                    first[0] = "other"
                    self.assertEqual(call(*arguments), kept)

    def test_later_changes_of_an_argument_have_no_effect(self):
        rules = [["m", "size", "a"]]
        book = Book(tuple([tuple(rule) for rule in rules]))
        rules[0][2] = "b"
        rules.append(["n", "size", "a"])
        self.assertEqual(book.rules, (("m", "size", "a"),))

    def test_later_changes_of_a_paper_have_no_effect(self):
        paper = lead_paper(ONE, OTHER_SHELF, 2)
        self.assertIs(lead_shows(ONE, OTHER_SHELF, 2, 0, paper), True)
        paper.pop()
        self.assertIs(lead_shows(ONE, OTHER_SHELF, 2, 0, paper), False)
        self.assertEqual(lead_paper(ONE, OTHER_SHELF, 2), PAPER)

    def test_true_and_false_stand_for_nothing(self):
        for value in (True, False):
            self.assertEqual(fault(text_at, TREE, value), (BadPath, {}))
            self.assertEqual(fault(text_at, value, "a"), (BadTree, {"index": None}))
            self.assertEqual(fault(text_at, (value,), "a"), (BadTree, {"index": 0}))
            self.assertEqual(fault(Book, value), (BadRules, {"index": None}))
            self.assertEqual(fault(Book, (value,)), (BadRules, {"index": 0}))
            self.assertEqual(fault(depths, value), (BadBook, {}))
            self.assertEqual(fault(run, BOOK, TREE, value), (BadMade, {}))
            self.assertEqual(fault(told_by, value, RECORD), (BadRule, {}))
            self.assertEqual(fault(told_by, SIZE, value), (BadRecord, {}))
            self.assertEqual(fault(Builder, value, TREE, (), "whole"), (BadBooks, {"index": None}))
            self.assertEqual(fault(Builder, (BOOK,), TREE, value, "whole"), (BadAims, {}))
            self.assertEqual(fault(Builder, (BOOK,), TREE, (), value), (BadWay, {}))
            for step in (value, ("cut", value), ("swap", value), ("build", value), (value,)):
                self.assertEqual(fault(Builder((BOOK, BOOK), TREE, (), "whole").do, step), (BadStep, {}))
                self.assertEqual(fault(Shop, (BOOK, BOOK), TREE, (), (step,)), (BadSteps, {"index": 0}))
            self.assertEqual(fault(first_wrong, value, "whole"), (BadShop, {}))
            self.assertEqual(fault(follow, SHOP, "whole", (value,)), (BadRow, {}))
            self.assertEqual(fault(Store, value, "lately", ()), (BadNumber, {"n": value}))
            self.assertEqual(fault(Store, 1, value, ()), (BadKind, {}))
            self.assertEqual(fault(Store, 1, "lately", (value,)), (BadEntries, {"index": 0}))
            self.assertEqual(fault(shelf_hits, ("eldest", value), ()), (BadShelf, {}))
            self.assertEqual(fault(shelf_hits, ONE, (0, value)), (BadRequests, {"index": 1}))
            self.assertEqual(fault(lead, ONE, ONE, value), (BadThings, {}))
            self.assertEqual(fault(lead_count, ONE, ONE, 1, value), (BadLength, {}))
            self.assertEqual(fault(lead_shows, ONE, ONE, 1, value, []), (BadLength, {}))
            self.assertIs(lead_shows(ONE, ONE, 1, 1, [(((), ()), 0), (((value,), (value,)), 0)]), False)
            self.assertIs(lead_shows(ONE, ONE, 1, 1, [(((), ()), value), (((0,), (0,)), 1)]), False)

    def test_answers_are_true_or_false_themselves(self):
        for call, book, value in ((right_ring, RING, ("p", "q")), (right_order, BOOK, ("mid", "out"))):
            self.assertIs(call(book, value), True)
            self.assertIs(call(book, value[:1]), False)
            self.assertIs(call(book, ()), False)
            self.assertIs(call(book, None), False)

    def test_the_error_of_the_first_argument_comes_first(self):
        self.assertEqual(fault(put, 1, 2, 3), (BadTree, {"index": None}))
        self.assertEqual(fault(put, TREE, 2, 3), (BadPath, {}))
        self.assertEqual(fault(differing, (2,), 3), (BadTree, {"index": 0}))
        self.assertEqual(fault(right_ring, None, None), (BadBook, {}))

    def test_answers_of_the_other_modules_are_true_or_false_themselves(self):
        for call, right, wrong in ((right_record, (SIZE, RECORD), (SIZE, None)),
                                   (replays, (BOOK, TREE, SIZE, RECORD), (BOOK, OTHER, SIZE, RECORD)),
                                   (blunt_replays, (BOOK, TREE, SIZE, RECORD), (BOOK, OTHER, SIZE, RECORD)),
                                   (true_entry, (ENTRY,), (SIZE,)),
                                   (always_right, (SHOP, "whole"), (SHOP, "moments")),
                                   (lead_shows, (ONE, ONE, 1, 0, lead_paper(ONE, ONE, 1)), (ONE, ONE, 1, 0, []))):
            self.assertIs(call(*right), True)
            self.assertIs(call(*wrong), False)

    def test_a_call_that_raises_changes_nothing(self):
        book, before = Book(BOOK.rules), [made_paths(BOOK), told_order(BOOK), depths(BOOK)]
        for call, arguments in FAILS:
            fault(call, *arguments)
            self.assertEqual([made_paths(book), told_order(book), depths(book)], before)
            self.assertEqual(book, BOOK)
        self.assertEqual(SHOP, Shop((BOOK,), TREE, ("out",), (BUILD, ("back", "a", "z"), ("touch", "a"))))

    def test_values_of_any_depth(self):
        deep = ()
        for _ in range(5000):
            deep = (deep,)
        self.assertEqual(fault(text_at, deep, "a"), (BadTree, {"index": 0}))
        self.assertEqual(fault(text_at, (), deep), (BadPath, {}))
        self.assertEqual(fault(Book, deep), (BadRules, {"index": 0}))
        self.assertEqual(fault(made_paths, deep), (BadBook, {}))
        self.assertIs(right_ring(RING, deep), False)
        self.assertIs(right_order(BOOK, deep), False)
        self.assertIs(right_record(SIZE, deep), False)
        self.assertIs(right_record(SIZE, (("text", "a", deep),)), False)
        self.assertIs(true_entry(ENTRY[:2] + (deep,)), False)
        self.assertIs(lead_shows(ONE, ONE, 1, 0, deep), False)
        self.assertIs(lead_shows(ONE, ONE, 1, 0, [(((), deep), 0)]), False)
        for call, arguments, error in ((run, (BOOK, TREE, deep), (BadMade, {})),
                                       (told_by, (SIZE, deep), (BadRecord, {})),
                                       (Builder, ((BOOK,), TREE, deep, "whole"), (BadAims, {})),
                                       (Builder, ((BOOK,), TREE, (), deep), (BadWay, {})),
                                       (Builder((BOOK,), TREE, (), "whole").do, (deep,), (BadStep, {})),
                                       (follow, (SHOP, "whole", deep), (BadRow, {})),
                                       (Store, (1, deep, ()), (BadKind, {})),
                                       (Store, (1, "lately", deep), (BadEntries, {"index": 0})),
                                       (shelf_hits, (deep, ()), (BadShelf, {})),
                                       (shelf_hits, (ONE, deep), (BadRequests, {"index": 0}))):
            self.assertEqual(fault(call, *arguments), error)
        self.assertIs(fault(Store, deep, "lately", ())[0], BadNumber)


if __name__ == "__main__":
    unittest.main()
