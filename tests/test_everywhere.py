"""Point 1: what every function keeps to. Each call of CALLS is one that returns."""

import copy
import unittest

from buildroom.books import Book, depths, made_paths, right_order, right_ring, told_order, told_ring
from buildroom.builders import Builder
from buildroom.caches import Store, true_entry
from buildroom.changes import changed, edited_tree, fewest_edits, may_touch, moved, needed, same_moved, touched
from buildroom.desk import Desk
from buildroom.errors import (BadAims, BadBook, BadBooks, BadEdits, BadEntries, BadKind, BadLength, BadLengths, BadMachines,
                              BadMade, BadMost, BadNumber, BadOrder, BadPath, BadPlan, BadRecord, BadRequests, BadRoom,
                              BadRow, BadRule, BadRules, BadSeen, BadShelf, BadShop, BadSlots, BadState, BadStep, BadSteps,
                              BadThings, BadTree, BadWay, BadWords, RoomError)
from buildroom.jobs import plan_of
from buildroom.leads import lead, lead_by_length, lead_count, lead_loop, lead_paper, lead_row, lead_shows
from buildroom.lists import best_order, count_orders, list_count, list_end, list_schedule, list_surprises, worst_order
from buildroom.machines import best_schedule, least_end, least_machines, plan_bounds, schedule_end
from buildroom.paths import differing, names_in, put, taken, text_at
from buildroom.records import blunt_replays, blunted, first_changed, replays, right_record, told_by
from buildroom.running import clean, reads_behind, run
from buildroom.shelves import shelf_course, shelf_hits, shelf_lies
from buildroom.shops import Shop, always_right, first_apart, first_needless, first_wrong, follow, left_by
from buildroom.slots import count_stuck, fewest_slots, never_stuck, safe_starts, stuck_row
from buildroom.tellback import (cut_kinds, explained, least_explained, sure_done, sure_files, sure_runs, which_books,
                                which_cuts)
from buildroom.texts import book_text, read_book, read_steps, read_tree, steps_text, tree_text
from tests.helpers import fault

TREE = (("a", "x"), ("lib/b", "y"))
OTHER = (("a", "z"), ("c", ""))
BOOK = Book((("out", "join", ("a", "mid")), ("mid", "sort", "a")))
RING = Book((("p", "size", "q"), ("q", "size", "p")))
SIZE, RECORD = ("mid", "sort", "a"), (("text", "a", "x"),)
ENTRY = (SIZE, RECORD, "x")
BUILD = ("build",)
SHOP = Shop((BOOK,), TREE, ("out",), (BUILD, ("back", "a", "z"), ("touch", "a")))
ONE, OTHER_SHELF = ("eldest", 1), ("lately", 1)
PAPER = lead_paper(ONE, OTHER_SHELF, 2)
PLAN = ((1, (), 2), (1, (), 2), (2, (), 1), (1, (0,), 0))
WRONG_PLAN = ((1, (), 0), [1, [0], 0])
EDITS = (("write", "a", "z"), ("drop", "a"), ("write", "c", "w"))
SEEN = (("mid", "x"), ("out", "xx"))
WRITTEN = (("write", "a", "x\ny"), ("cut", 3), BUILD)


def steps(books, tree, aims, way, row):
    """All that a builder tells behind each step of a row."""
    builder, told = Builder(books, tree, aims, way), []
    for step in row:
        told.append([builder.do(step), builder.number, builder.tree, builder.lying, builder.right(),
                     builder.copy().lying])
    return told


def builds(room, kind, entries, book, trees, aims):
    """All that a store tells behind each build of some trees."""
    store, told = Store(room, kind, entries), []
    for tree in trees:
        told.append([store.build(book, tree, aims), store.near, store.far, len(store), store.copy().forget()])
    return told + [store.forget()]


def desk_steps(books, tree, aims, way, row):
    """All that a desk tells behind each step of a row, each step being taken back once and done again."""
    desk, told = Desk(books, tree, aims, way), []
    for step in row:
        told.append([desk.would(step), desk.do(step), desk.undo(), desk.texts, desk.redo(), desk.row, desk.texts, desk.files,
                     desk.right(), len(desk), desk.copy().row])
    return told


CALLS = (
    (schedule_end, (PLAN, 3, 3, ((0, 0), (1, 0), (0, 1), (1, 2)))), (schedule_end, (PLAN, 3, 3, [[0, [0]], {0: [1]}])),
    (least_end, (PLAN, 2, 3)), (best_schedule, (PLAN, 2, 3)), (plan_bounds, (PLAN, 2, 3)), (least_machines, (PLAN, 3, 4)),
    (list_schedule, (PLAN, 3, 3, (0, 1, 2, 3))), (list_end, (PLAN, 3, 3, (0, 1, 2, 3))), (worst_order, (PLAN, 3, 3)),
    (best_order, (PLAN, 3, 3)), (list_count, (PLAN, 3, 3, 2)), (count_orders, (PLAN,)),
    (list_surprises, (PLAN, 3, 3, (0, 1, 2, 3))),
    (stuck_row, (PLAN, 1)), (never_stuck, (PLAN, 1)), (count_stuck, (PLAN, 1)), (fewest_slots, (PLAN,)),
    (safe_starts, (PLAN, 2, (1,), (3,))), (plan_of, (BOOK, TREE, (5, 6))),
    (edited_tree, (BOOK, TREE, EDITS)), (changed, (BOOK, TREE, EDITS)), (touched, (BOOK, TREE, "a")), (may_touch, (BOOK, "a")),
    (fewest_edits, (BOOK, TREE, EDITS, "out", "zz")), (moved, (BOOK, TREE, "a", "z")), (same_moved, (BOOK, TREE, "a", "z")),
    (needed, (BOOK, TREE, ("out",))), (explained, (SHOP, "whole", 2, SEEN)), (least_explained, (SHOP, "whole", 2, SEEN)),
    (sure_done, (SHOP, "whole", 2, SEEN)), (sure_runs, (SHOP, "whole", 2, SEEN)), (sure_files, (SHOP, "whole", 2, SEEN)),
    (which_books, ((BOOK, BOOK), TREE, ("mid",), SEEN)), (which_cuts, ((BOOK,), TREE, ("out",), "whole", (("mid", ""),))),
    (cut_kinds, ((BOOK,), TREE, ("out",), "whole")), (tree_text, (TREE,)), (book_text, (BOOK,)), (steps_text, (WRITTEN,)),
    (read_tree, (tree_text(TREE),)), (read_book, (book_text(BOOK),)), (read_steps, (steps_text(WRITTEN),)),
    (desk_steps, ((BOOK, BOOK), TREE, ("out",), "moments", (BUILD, ("write", "a", "y"), ("swap", 1), ("cut", 0), BUILD))),
    (clean, (BOOK, TREE)), (clean, (RING, TREE)), (run, (BOOK, TREE, "out")), (run, (RING, (), "p")),
         (reads_behind, (BOOK, TREE, "out")),
    (right_record, (SIZE, RECORD)), (right_record, (SIZE, [["text", ["a"], {"x": "x"}]])), (told_by, (SIZE, RECORD)),
    (first_changed, (BOOK, OTHER, SIZE, RECORD)), (replays, (BOOK, TREE, SIZE, RECORD)), (blunted, (SIZE, RECORD)),
    (blunt_replays, (BOOK, OTHER, SIZE, RECORD)),
    (steps, ((BOOK, BOOK), TREE, ("out",), "whole", (BUILD, ("write", "a", "y"), ("swap", 1), ("cut", 0),
                                                     ("spoil", "mid", "z"), BUILD))),
    (steps, ((BOOK,), TREE, ("mid", "out"), "moments", (BUILD, ("back", "a", "y"), ("lose", "mid"), ("forget", "out"),
                                                        ("drop", "a"), BUILD))),
    (first_wrong, (SHOP, "moments")), (first_needless, (SHOP, "always")), (first_apart, (SHOP, "moments", "records")),
    (always_right, (SHOP, "whole")), (follow, (SHOP, "records", (0, 1, 0))), (left_by, (SHOP, "records", (0, 1, 0))),
    (true_entry, (ENTRY,)), (true_entry, ([ENTRY, {"a": [ENTRY]}],)),
         (builds, (1, "lately", (ENTRY,), BOOK, (TREE, OTHER, TREE), ("mid", "out"))),
    (shelf_course, (("best", 2), (0, 1, 2, 0))), (shelf_hits, (("seldom", 2), (0, 1, 0))),
         (shelf_lies, (("newest", 2), (0, 1, 0))),
    (lead, (ONE, OTHER_SHELF, 2)), (lead_row, (ONE, OTHER_SHELF, 2)), (lead_loop, (ONE, ("best", 2), 3)),
         (lead_paper, (ONE, OTHER_SHELF, 2)),
    (lead_shows, (ONE, OTHER_SHELF, 2, 0, PAPER)), (lead_shows, (ONE, OTHER_SHELF, 2, 0, [[PAPER], {0: PAPER}])),
    (lead_by_length, (ONE, ("best", 2), 3, 5)), (lead_count, (ONE, ("best", 2), 3, 5)),
    (text_at, (TREE, "a")), (names_in, (TREE, "")), (put, (TREE, "c", "w")), (taken, (TREE, "a")),
    (differing, (TREE, OTHER)), (Book, (BOOK.rules,)), (made_paths, (BOOK,)), (told_ring, (RING,)),
    (right_ring, (RING, ["p", ["q"]])), (right_ring, (RING, {"p": ["q"]})), (told_order, (BOOK,)),
    (right_order, (BOOK, [["mid"], {"out": 1}])), (right_order, (BOOK, ("mid", ["out"]))), (depths, (BOOK,)),
)
FAILS = (
    (schedule_end, ([PLAN], 3, 3, [])), (least_end, (WRONG_PLAN, 3, 3)), (best_schedule, (PLAN, [3], 3)),
    (plan_bounds, (PLAN, 3, {3: [3]})), (least_machines, (PLAN, 3, [4])), (list_schedule, (PLAN, 3, 3, [0, 1, 2, 3])),
    (list_end, (PLAN, 3, 3, ([0], 1, 2, 3))), (worst_order, (PLAN + PLAN, 3, 3)), (list_count, (PLAN, 3, 3, [2])),
    (count_orders, (WRONG_PLAN,)), (list_surprises, (PLAN, 3, [3], ())), (stuck_row, (PLAN, [1])), (count_stuck, ([], 1)),
    (safe_starts, (PLAN, 2, [1], [3])), (plan_of, (BOOK, TREE, [5, [6]])), (edited_tree, (BOOK, TREE, [EDITS])),
    (changed, (BOOK, TREE, (["drop", "a"],))), (touched, (BOOK, TREE, ["a"])), (may_touch, (BOOK, {"a": ["a"]})),
    (fewest_edits, (BOOK, TREE, EDITS, ["out"], "zz")), (moved, (BOOK, TREE, "a", ["z"])), (moved, (BOOK, TREE, "a", "mid")),
    (same_moved, (BOOK, TREE, "q", "z")), (needed, (BOOK, TREE, [["out"]])), (explained, (SHOP, "whole", [2], SEEN)),
    (sure_files, (SHOP, "whole", 2, [["mid", "x"]])), (which_books, ((BOOK,), TREE, ("mid",), {"mid": ["x"]})),
    (which_cuts, ((BOOK,), TREE, ["out"], "whole", ())), (cut_kinds, ([BOOK], TREE, (), "whole")), (tree_text, ([TREE],)),
    (book_text, ([BOOK],)), (steps_text, ([WRITTEN],)), (read_tree, (["file a"],)), (read_book, ("rule a",)),
    (read_steps, ({"build": []},)), (desk_steps, ((BOOK,), TREE, ("out",), "moments", (BUILD, ["build"]))),
    (clean, ([BOOK], TREE)), (run, (BOOK, TREE, ["out"])), (reads_behind, (BOOK, [["a", "x"]], "out")),
         (told_by, (["mid", "sort", "a"], RECORD)),
    (first_changed, (BOOK, TREE, SIZE, [["text", "a", "x"]])), (blunted, (SIZE, [RECORD])),
         (right_record, ([SIZE], RECORD)),
    (steps, ([BOOK], TREE, ("out",), "whole", ())), (steps, ((BOOK,), TREE, ["out"], "whole", ())),
         (steps, ((BOOK,), TREE, ("out",), ["whole"], ())),
    (steps, ((BOOK,), TREE, ("out",), "whole", (BUILD, ["build"]))), (Shop, ((BOOK,), TREE, ("out",), [BUILD])),
         (first_wrong, ([SHOP], "whole")),
    (follow, (SHOP, "whole", [0, [1]])), (left_by, (SHOP, ["whole"], ())),
         (builds, (1, "lately", [ENTRY], BOOK, (TREE,), ("mid",))),
    (builds, (1, ["lately"], (ENTRY,), BOOK, (TREE,), ("mid",))),
         (builds, (1, "lately", (ENTRY,), BOOK, ([TREE],), ("mid",))),
    (shelf_course, (["best", 2], (0,))), (shelf_hits, (("best", 2), [0, [1]])), (lead, ([ONE], ONE, 2)),
         (lead_shows, (ONE, ONE, 2, [0], [])),
    (lead_by_length, (ONE, ONE, [1], 2)),
    (text_at, ([["a", "x"]], "a")), (names_in, (TREE, ["a"])), (put, (TREE, "c", {"w": ["w"]})), (taken, (TREE, ["a"])),
    (put, (TREE, "lib", "")), (taken, (TREE, "lib")), (differing, (TREE, [["a"]])), (Book, ([["m", "size", "a"]],)),
    (Book, ((("m", "join", ["a"]),),)), (made_paths, ([BOOK],)), (told_ring, ({"book": [BOOK]},)), (depths, ([[]],)),
)


def spoil(value):
    """Change all lists in a value that was returned."""
    if isinstance(value, (list, tuple)):
        for thing in value:
            spoil(thing)
    if isinstance(value, list):
        value.append("more")
        value[0] = "other"


class Everywhere(unittest.TestCase):
    def test_arguments_are_not_changed(self):
        for call, arguments in CALLS + FAILS:
            with self.subTest(call=call, arguments=arguments):
                before = copy.deepcopy(arguments)
                shown = repr(arguments)
                fault(call, *arguments)
                self.assertEqual(arguments, before)
                self.assertEqual(repr(arguments), shown)

    def test_equal_calls_give_equal_results(self):
        for call, arguments in CALLS + FAILS:
            with self.subTest(call=call, arguments=arguments):
                self.assertEqual(fault(call, *arguments), fault(call, *copy.deepcopy(arguments)))

    def test_these_calls_return_and_those_raise(self):
        for call, arguments in CALLS:
            self.assertEqual(fault(call, *arguments)[0], "returned")
        for call, arguments in FAILS:
            self.assertTrue(issubclass(fault(call, *arguments)[0], RoomError))

    def test_lists_are_new(self):
        for call, arguments in CALLS:
            first = call(*arguments)
            if isinstance(first, list):
                with self.subTest(call=call):
                    kept = list(first)
                    first.append("more")
                    first[0] = "other"
                    self.assertEqual(call(*arguments), kept)

    def test_calls_do_not_hang_on_others_or_on_lists_that_were_changed(self):
        told = []
        for call, arguments in CALLS + FAILS:
            found = fault(call, *arguments)
            told.append(repr(found))
            spoil(found[1])
        for (call, arguments), shown in reversed(list(zip(CALLS + FAILS, told))):
            with self.subTest(call=call, arguments=arguments):
                self.assertEqual(repr(fault(call, *arguments)) if "object at" not in shown else shown, shown)

    def test_later_changes_of_an_argument_have_no_effect(self):
        rules = [["m", "size", "a"]]
        book = Book(tuple([tuple(rule) for rule in rules]))
        rules[0][2] = "b"
        rules.append(["n", "size", "a"])
        self.assertEqual(book.rules, (("m", "size", "a"),))

    def test_later_changes_of_a_paper_have_no_effect(self):
        paper = lead_paper(ONE, OTHER_SHELF, 2)
        self.assertIs(lead_shows(ONE, OTHER_SHELF, 2, 0, paper), True)
        paper.pop()
        self.assertIs(lead_shows(ONE, OTHER_SHELF, 2, 0, paper), False)
        self.assertEqual(lead_paper(ONE, OTHER_SHELF, 2), PAPER)

    def test_true_and_false_stand_for_nothing(self):
        for value in (True, False):
            self.assertEqual(fault(text_at, TREE, value), (BadPath, {}))
            self.assertEqual(fault(text_at, value, "a"), (BadTree, {"index": None}))
            self.assertEqual(fault(text_at, (value,), "a"), (BadTree, {"index": 0}))
            self.assertEqual(fault(Book, value), (BadRules, {"index": None}))
            self.assertEqual(fault(Book, (value,)), (BadRules, {"index": 0}))
            self.assertEqual(fault(depths, value), (BadBook, {}))
            self.assertEqual(fault(run, BOOK, TREE, value), (BadMade, {}))
            self.assertEqual(fault(told_by, value, RECORD), (BadRule, {}))
            self.assertEqual(fault(told_by, SIZE, value), (BadRecord, {}))
            self.assertEqual(fault(Builder, value, TREE, (), "whole"), (BadBooks, {"index": None}))
            self.assertEqual(fault(Builder, (BOOK,), TREE, value, "whole"), (BadAims, {}))
            self.assertEqual(fault(Builder, (BOOK,), TREE, (), value), (BadWay, {}))
            for step in (value, ("cut", value), ("swap", value), ("build", value), (value,)):
                self.assertEqual(fault(Builder((BOOK, BOOK), TREE, (), "whole").do, step), (BadStep, {}))
                self.assertEqual(fault(Shop, (BOOK, BOOK), TREE, (), (step,)), (BadSteps, {"index": 0}))
            self.assertEqual(fault(first_wrong, value, "whole"), (BadShop, {}))
            self.assertEqual(fault(follow, SHOP, "whole", (value,)), (BadRow, {}))
            self.assertEqual(fault(Store, value, "lately", ()), (BadNumber, {"n": value}))
            self.assertEqual(fault(Store, 1, value, ()), (BadKind, {}))
            self.assertEqual(fault(Store, 1, "lately", (value,)), (BadEntries, {"index": 0}))
            self.assertEqual(fault(shelf_hits, ("eldest", value), ()), (BadShelf, {}))
            self.assertEqual(fault(shelf_hits, ONE, (0, value)), (BadRequests, {"index": 1}))
            self.assertEqual(fault(lead, ONE, ONE, value), (BadThings, {}))
            self.assertEqual(fault(lead_count, ONE, ONE, 1, value), (BadLength, {}))
            self.assertEqual(fault(lead_shows, ONE, ONE, 1, value, []), (BadLength, {}))
            self.assertIs(lead_shows(ONE, ONE, 1, 1, [(((), ()), 0), (((value,), (value,)), 0)]), False)
            self.assertIs(lead_shows(ONE, ONE, 1, 1, [(((), ()), value), (((0,), (0,)), 1)]), False)

    def test_true_and_false_stand_for_nothing_in_plans_changes_and_texts(self):
        for value in (True, False):
            for plan in (((value, (), 0),), ((1, (), value),), ((1, (), 0), (1, (value,), 0))):
                self.assertEqual(fault(count_orders, plan), (BadPlan, {"index": len(plan) - 1}))
            self.assertEqual(fault(count_orders, value), (BadPlan, {"index": None}))
            self.assertEqual(fault(least_end, PLAN, value, 0), (BadMachines, {}))
            self.assertEqual(fault(least_end, PLAN, 1, value), (BadRoom, {}))
            self.assertEqual(fault(least_machines, PLAN, 1, value), (BadLength, {}))
            self.assertIsNone(schedule_end(((1, (), 0),), 2, 0, ((value, 0),)))
            self.assertIsNone(schedule_end(((1, (), 0),), 2, 0, ((0, value),)))
            self.assertEqual(fault(list_end, PLAN[:2], 1, 0, (1, value)), (BadOrder, {}))
            self.assertEqual(fault(list_count, PLAN, 1, 0, value), (BadLength, {}))
            self.assertEqual(fault(stuck_row, PLAN, value), (BadSlots, {}))
            self.assertEqual(fault(safe_starts, PLAN, 1, (value,), ()), (BadState, {}))
            self.assertEqual(fault(plan_of, BOOK, TREE, (1, value)), (BadLengths, {}))
            self.assertEqual(fault(changed, BOOK, TREE, value), (BadEdits, {"index": None}))
            self.assertEqual(fault(changed, BOOK, TREE, (("drop", value),)), (BadEdits, {"index": 0}))
            self.assertEqual(fault(touched, BOOK, TREE, value), (BadPath, {}))
            self.assertEqual(fault(fewest_edits, BOOK, TREE, (), "out", value), (BadWords, {}))
            self.assertEqual(fault(needed, BOOK, TREE, (value,)), (BadAims, {}))
            self.assertEqual(fault(explained, SHOP, "whole", value, ()), (BadMost, {}))
            self.assertEqual(fault(explained, SHOP, "whole", 1, value), (BadSeen, {"index": None}))
            self.assertEqual(fault(explained, SHOP, "whole", 1, (("a", value),)), (BadSeen, {"index": 0}))
            self.assertEqual(fault(steps_text, (("swap", value),)), (BadSteps, {"index": 0}))
            for read in (read_tree, read_book, read_steps):
                self.assertEqual(fault(read, value), (BadWords, {}))
            self.assertEqual(fault(Desk((BOOK, BOOK), TREE, (), "whole").do, ("swap", value)), (BadStep, {}))

    def test_answers_are_true_or_false_themselves(self):
        for call, book, value in ((right_ring, RING, ("p", "q")), (right_order, BOOK, ("mid", "out"))):
            self.assertIs(call(book, value), True)
            self.assertIs(call(book, value[:1]), False)
            self.assertIs(call(book, ()), False)
            self.assertIs(call(book, None), False)

    def test_the_error_of_the_first_argument_comes_first(self):
        self.assertEqual(fault(put, 1, 2, 3), (BadTree, {"index": None}))
        self.assertEqual(fault(put, TREE, 2, 3), (BadPath, {}))
        self.assertEqual(fault(differing, (2,), 3), (BadTree, {"index": 0}))
        self.assertEqual(fault(right_ring, None, None), (BadBook, {}))

    def test_answers_of_the_other_modules_are_true_or_false_themselves(self):
        for call, right, wrong in ((right_record, (SIZE, RECORD), (SIZE, None)),
                                   (replays, (BOOK, TREE, SIZE, RECORD), (BOOK, OTHER, SIZE, RECORD)),
                                   (blunt_replays, (BOOK, TREE, SIZE, RECORD), (BOOK, OTHER, SIZE, RECORD)),
                                   (true_entry, (ENTRY,), (SIZE,)),
                                   (always_right, (SHOP, "whole"), (SHOP, "moments")),
                                   (never_stuck, (PLAN, 4), (PLAN, 1)),
                                   (same_moved, (BOOK, TREE, "a", "z"),
                                    (Book((("m", "names", ""),)), TREE, "a", "z")),
                                   (lead_shows, (ONE, ONE, 1, 0, lead_paper(ONE, ONE, 1)), (ONE, ONE, 1, 0, []))):
            self.assertIs(call(*right), True)
            self.assertIs(call(*wrong), False)

    def test_a_call_that_raises_changes_nothing(self):
        book, before = Book(BOOK.rules), [made_paths(BOOK), told_order(BOOK), depths(BOOK)]
        for call, arguments in FAILS:
            fault(call, *arguments)
            self.assertEqual([made_paths(book), told_order(book), depths(book)], before)
            self.assertEqual(book, BOOK)
        self.assertEqual(SHOP, Shop((BOOK,), TREE, ("out",), (BUILD, ("back", "a", "z"), ("touch", "a"))))

    def test_values_of_any_depth(self):
        deep = ()
        for _ in range(5000):
            deep = (deep,)
        self.assertEqual(fault(text_at, deep, "a"), (BadTree, {"index": 0}))
        self.assertEqual(fault(text_at, (), deep), (BadPath, {}))
        self.assertEqual(fault(Book, deep), (BadRules, {"index": 0}))
        self.assertEqual(fault(made_paths, deep), (BadBook, {}))
        self.assertIs(right_ring(RING, deep), False)
        self.assertIs(right_order(BOOK, deep), False)
        self.assertIs(right_record(SIZE, deep), False)
        self.assertIs(right_record(SIZE, (("text", "a", deep),)), False)
        self.assertIs(true_entry(ENTRY[:2] + (deep,)), False)
        self.assertIs(lead_shows(ONE, ONE, 1, 0, deep), False)
        self.assertIs(lead_shows(ONE, ONE, 1, 0, [(((), deep), 0)]), False)
        for call, arguments, error in ((run, (BOOK, TREE, deep), (BadMade, {})),
                                       (told_by, (SIZE, deep), (BadRecord, {})),
                                       (Builder, ((BOOK,), TREE, deep, "whole"), (BadAims, {})),
                                       (Builder, ((BOOK,), TREE, (), deep), (BadWay, {})),
                                       (Builder((BOOK,), TREE, (), "whole").do, (deep,), (BadStep, {})),
                                       (follow, (SHOP, "whole", deep), (BadRow, {})),
                                       (Store, (1, deep, ()), (BadKind, {})),
                                       (Store, (1, "lately", deep), (BadEntries, {"index": 0})),
                                       (shelf_hits, (deep, ()), (BadShelf, {})),
                                       (shelf_hits, (ONE, deep), (BadRequests, {"index": 0}))):
            self.assertEqual(fault(call, *arguments), error)
        self.assertIs(fault(Store, deep, "lately", ())[0], BadNumber)
        self.assertIsNone(schedule_end(PLAN, 1, 0, deep))
        for call, arguments, error in ((least_end, (deep, 1, 0), (BadPlan, {"index": 0})),
                                       (list_end, (PLAN, 1, 0, deep), (BadOrder, {})),
                                       (safe_starts, (PLAN, 1, deep, ()), (BadState, {})),
                                       (plan_of, (BOOK, TREE, deep), (BadLengths, {})),
                                       (changed, (BOOK, TREE, deep), (BadEdits, {"index": 0})),
                                       (may_touch, (BOOK, deep), (BadPath, {})),
                                       (fewest_edits, (BOOK, TREE, (), deep, ""), (BadMade, {})),
                                       (fewest_edits, (BOOK, TREE, (), "out", deep), (BadWords, {})),
                                       (needed, (BOOK, TREE, deep), (BadAims, {})),
                                       (explained, (SHOP, "whole", deep, ()), (BadMost, {})),
                                       (explained, (SHOP, "whole", 0, deep), (BadSeen, {"index": 0})),
                                       (steps_text, (deep,), (BadSteps, {"index": 0})),
                                       (read_tree, (deep,), (BadWords, {}))):
            self.assertEqual(fault(call, *arguments), error)


if __name__ == "__main__":
    unittest.main()
