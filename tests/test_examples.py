"""The examples of the document's interface, as they stand there."""

import unittest

from tests.helpers import wrong_examples

PATHS = r'''
>>> from buildroom.paths import differing, names_in, put, taken, text_at
>>> tree = (("a", "x"), ("src/b", "y\nz"))
>>> [names_in(tree, ""), names_in(tree, "src"), text_at(tree, "src/b"), text_at(tree, "src"), put(tree, "src/c", "")]
[('a', 'src'), ('b',), 'y\nz', None, (('a', 'x'), ('src/b', 'y\nz'), ('src/c', ''))]
>>> [taken(tree, "a"), differing(tree, put(tree, "a", "w")), differing(tree, ())]
[(('src/b', 'y\nz'),), ['a'], ['a', 'src/b']]
>>> put(tree, "src", "")
raises Clash()
'''

BOOKS = r'''
>>> from buildroom.books import Book, depths, made_paths, right_order, right_ring, told_order, told_ring
>>> book, odd = Book((("out", "join", ("a", "mid")), ("mid", "sort", "a"))), Book((("p", "join", ("q", "a")), ("q", "size", "p")))
>>> [made_paths(book), told_order(book), depths(book), told_ring(book), right_order(book, ("out", "mid")), len(book)]
[['mid', 'out'], ('mid', 'out'), [1, 2], None, False, 2]
>>> [told_ring(odd), right_ring(odd, ("q", "p")), told_order(odd), depths(odd)]
[('p', 'q'), True, None, None]
>>> Book((("a", "size", "b"), ("a/c", "size", "b")))
raises BadRules(index=1)
'''

RUNNING = r'''
>>> from buildroom.books import Book
>>> from buildroom.running import clean, reads_behind, run
>>> book = Book((("out", "join", ("a", "mid")), ("mid", "sort", "a"), ("n", "size", "out"), ("all", "names", "")))
>>> clean(book, (("a", "b\na"),))
(('all', ('text', 'a')), ('mid', ('text', 'a\nb')), ('n', ('text', '6')), ('out', ('text', 'b\naa\nb')))
>>> [run(book, (("a", "b\na"),), "out"), reads_behind(book, (("a", "b\na"),), "n"), run(book, (), "n")]
[(('text', 'b\naa\nb'), (('text', 'a', 'b\na'), ('text', 'mid', 'a\nb'))), ['a', 'mid', 'out'], (('stopped', 'out'), (('stopped', 'out'),))]
>>> found = Book((("o", "use", "main"), ("c", "choose", "main", "part", "no"), ("w", "need", "main", "end"), ("z", "pick", "z", "x")))
>>> clean(found, (("main", "use part\nend"), ("part", "P")))
(('c', ('missing', 'no')), ('o', ('text', 'P\nend')), ('w', ('text', 'use part\nend')), ('z', ('ring',)))
'''

RECORDS = r'''
>>> from buildroom.books import Book
>>> from buildroom.records import blunt_replays, blunted, first_changed, replays, right_record, told_by
>>> size, record = ("n", "size", "a"), (("text", "a", "abc"),)
>>> [told_by(size, record), blunted(size, record), right_record(size, ()), right_record(size, (("missing", "a"),))]
[('text', '3'), (('size', 'a', 3),), False, True]
>>> book = Book((size,))
>>> [replays(book, (("a", "xyz"),), size, record), first_changed(book, (("a", "xyz"),), size, record), blunt_replays(book, (("a", "xyz"),), size, record), blunt_replays(book, (("a", "xy"),), size, record)]
[False, 0, True, False]
'''

BUILDERS = r'''
>>> from buildroom.books import Book
>>> from buildroom.builders import Builder
>>> books = (Book((("out", "sort", "a"),)),)
>>> builder = Builder(books, (("a", "b\na"),), ("out",), "records")
>>> [builder.do(("build",)), builder.lying, builder.do(("build",)), builder.do(("write", "a", "c")), builder.right(), builder.do(("build",)), builder.right()]
[('out',), (('out', 'a\nb'),), (), (), False, ('out',), True]
>>> [builder.do(("spoil", "out", "x")), builder.do(("build",)), builder.right(), builder.do(("forget", "out")), builder.do(("build",)), builder.lying]
[(), (), False, (), ('out',), (('out', 'c'),)]
>>> older = Builder(books, (("a", "long"),), ("out",), "moments")
>>> [older.do(("cut", 0)), older.lying, older.do(("build",)), older.lying, older.do(("back", "a", "c")), older.do(("touch", "a")), older.do(("build",)), older.lying]
[('out',), (('out', 'lo'),), (), (('out', 'lo'),), (), (), ('out',), (('out', 'c'),)]
'''

SHOPS = r'''
>>> from buildroom.books import Book
>>> from buildroom.shops import Shop, always_right, first_apart, first_needless, first_wrong, follow, left_by
>>> shop = Shop((Book((("out", "sort", "a"),)),), (("a", "b"),), ("out",), (("build",), ("back", "a", "c"), ("touch", "a")))
>>> [first_wrong(shop, "moments"), always_right(shop, "records"), first_needless(shop, "moments"), first_needless(shop, "records"), first_apart(shop, "moments", "records")]
[(0, 1, 0), True, (0, 2, 0), None, (0, 1, 0)]
>>> [follow(shop, "moments", (0, 2, 0)), left_by(shop, "moments", (0, 1, 0)), first_needless(shop, "always")]
[[('out',), (), ('out',)], ((('a', 'c'),), (('out', 'b'),)), (0, 0)]
'''

CACHES = r'''
>>> from buildroom.books import Book
>>> from buildroom.caches import Store, true_entry
>>> book, store = Book((("out", "join", ("a", "mid")), ("mid", "sort", "b"))), Store(1, "eldest", ())
>>> [store.build(book, (("a", "x"), ("b", "y")), ("out",)), store.build(book, (("a", "z"), ("b", "y")), ("out",)), store.build(book, (("a", "x"), ("b", "y")), ("out",))]
[(('xy',), ('mid', 'out'), (), ()), (('zy',), ('out',), (), ('mid',)), (('xy',), (), (), ('mid', 'out'))]
>>> [len(store), store.near, true_entry((("mid", "sort", "b"), (("text", "b", "y"),), "y")), true_entry((("mid", "sort", "b"), (("text", "b", "y"),), "z")), store.forget()]
[3, ((('out', 'join', ('a', 'mid')), (('text', 'a', 'x'), ('text', 'mid', 'y')), 'xy'),), True, False, 1]
'''

SHELVES = r'''
>>> from buildroom.shelves import shelf_course, shelf_hits, shelf_lies
>>> row = (0, 1, 2, 0, 1, 0, 3, 0)
>>> [shelf_course(("eldest", 2), (0, 1, 0, 2, 0)), shelf_course(("lately", 2), (0, 1, 0, 2, 0))]
[[(False, None), (False, None), (True, None), (False, 0), (False, 1)], [(False, None), (False, None), (True, None), (False, 1), (True, None)]]
>>> [[shelf_hits((rule, 2), row) for rule in ("eldest", "lately", "newest", "seldom", "best")], shelf_lies(("best", 2), row)]
[[1, 2, 3, 2, 3], (0, 3)]
'''

LEADS = r'''
>>> from buildroom.leads import lead, lead_by_length, lead_count, lead_loop, lead_paper, lead_row, lead_shows
>>> [lead(("lately", 1), ("eldest", 1), 3), lead_row(("lately", 2), ("lately", 1), 3), lead(("eldest", 1), ("eldest", 2), 3), lead(("best", 2), ("lately", 2), 3)]
[0, (), None, 0]
>>> [lead_paper(("eldest", 1), ("lately", 1), 2), lead_shows(("eldest", 1), ("lately", 1), 2, 0, [(((), ()), 0), (((0,), (0,)), 0), (((1,), (1,)), 0)])]
[[(((), ()), 0), (((0,), (0,)), 0), (((1,), (1,)), 0)], True]
>>> [lead_by_length(("lately", 2), ("eldest", 2), 3, 5), lead_by_length(("eldest", 2), ("lately", 2), 3, 5), lead_count(("eldest", 1), ("eldest", 2), 2, 3)]
[(1, (0, 1, 0, 2, 1)), (1, (0, 1, 0, 2, 0)), 2]
'''

MACHINES = r'''
>>> from buildroom.machines import best_schedule, least_end, least_machines, plan_bounds, schedule_end
>>> plan = ((3, (), 1), (2, (), 1), (2, (1,), 2), (4, (), 1))
>>> [least_end(plan, 2, 9), plan_bounds(plan, 2, 9), least_end(plan, 2, 2), least_end(plan, 1, 9), least_end(plan, 4, 1)]
[6, (4, 6, 2), 7, 11, None]
>>> [schedule_end(plan, 2, 9, best_schedule(plan, 2, 9)), schedule_end(plan, 2, 9, ((0, 0), (0, 1), (2, 1), (2, 0))), least_machines(plan, 9, 5), least_machines(plan, 9, 3)]
[6, None, 3, None]
'''

LISTS = r'''
>>> from buildroom.lists import best_order, count_orders, list_count, list_end, list_schedule, list_surprises, worst_order
>>> plan = ((3, (), 1), (2, (), 1), (2, (1,), 2), (4, (), 1))
>>> [list_schedule(plan, 2, 9, (0, 1, 2, 3)), list_end(plan, 2, 9, (0, 1, 2, 3)), worst_order(plan, 2, 9), best_order(plan, 2, 9)]
[((0, 0), (0, 1), (2, 1), (3, 0)), 7, (7, (0, 1, 2, 3)), (6, (0, 1, 3, 2))]
>>> [count_orders(plan), list_count(plan, 1, 9, 11), list_end(plan, 2, 1, (0, 1, 2, 3)), list_surprises(plan, 2, 1, (0, 1, 2, 3))]
[12, 24, None, []]
'''

SLOTS = r'''
>>> from buildroom.slots import count_stuck, fewest_slots, never_stuck, safe_starts, stuck_row
>>> plan = ((1, (), 0), (1, (0,), 0), (1, (0, 1), 0))
>>> [stuck_row(plan, 1), stuck_row(plan, 2), never_stuck(plan, 2), fewest_slots(plan), count_stuck(plan, 1)]
[(('start', 1),), (('start', 1), ('start', 2)), False, 3, 3]
>>> [safe_starts(plan, 1, (), ()), safe_starts(plan, 2, (), (2,)), safe_starts(plan, 2, (0,), ()), safe_starts(plan, 1, (), (1,))]
[[0], [0], [1, 2], []]
'''

JOBS = r'''
>>> from buildroom.books import Book
>>> from buildroom.jobs import plan_of
>>> book = Book((("out", "join", ("a", "mid", "n")), ("mid", "sort", "a"), ("n", "size", "mid"), ("z", "use", "z")))
>>> plan_of(book, (("a", "b"),), (5, 2, 3, 9))
(('mid', 'n', 'out'), ((2, (), 1), (3, (0,), 1), (5, (0, 1), 1)))
'''

CHANGES = r'''
>>> from buildroom.books import Book
>>> from buildroom.changes import changed, edited_tree, fewest_edits, may_touch, moved, needed, same_moved, touched
>>> rules = (("all", "join", ("one", "s")), ("one", "choose", "t", "s", "u"), ("list", "names", ""))
>>> book, tree = Book(rules), (("s", "ab"), ("t", "yes"), ("u", "c"))
>>> found = [changed(book, tree, (("write", "s", "x"),)), edited_tree(book, tree, (("drop", "t"),)), touched(book, tree, "u")]
>>> found = found + [may_touch(book, "u"), needed(book, tree, ("all",)), moved(book, tree, "s", "new")[1]]
>>> found = found + [fewest_edits(book, tree, (("write", "t", "no"), ("write", "u", "ab")), "all", "cab")]
>>> found + [same_moved(book, tree, "s", "new"), same_moved(book, tree, "one", "two")]
[['all', 'one'], (('s', 'ab'), ('u', 'c')), ['list'], ['all', 'list', 'one'], ['all', 'one'], (('new', 'ab'), ('t', 'yes'), ('u', 'c')), [(0,)], False, True]
'''

TELLBACK = r'''
>>> from buildroom.books import Book
>>> from buildroom.shops import Shop
>>> from buildroom.tellback import cut_kinds, explained, least_explained, sure_done, sure_files, sure_runs, which_books, which_cuts
>>> one = Book((("a", "join", ("s", "s")), ("b", "size", "a")))
>>> two = Book((("a", "join", ("s", "t")), ("b", "size", "a")))
>>> tree, seen = (("s", "x"), ("t", "z")), (("a", "xx"), ("b", "2"))
>>> shop = Shop((one, two), tree, ("b",), (("build",), ("write", "s", "xy"), ("swap", 1), ("cut", 0)))
>>> found = [explained(shop, "whole", 1, seen), least_explained(shop, "whole", 3, seen), sure_done(shop, "whole", 2, seen)]
>>> found = found + [sure_runs(shop, "whole", 2, seen), sure_files(shop, "whole", 2, seen), which_books((one, two), tree, ("b",), seen)]
>>> found + [which_cuts((one,), tree, ("b",), "whole", (("a", "xx"), ("b", ""))), cut_kinds((one,), tree, ("b",), "whole")]
[[(0,)], (0,), [0], ['a', 'b'], (('t', 'z'),), [0, 1], [0], [[0], [1]]]
'''

TEXTS = r'''
>>> from buildroom.books import Book
>>> from buildroom.texts import book_text, read_book, read_tree, tree_text
>>> tree = (("a", "one\ntwo"), ("b/c", ""))
>>> book = Book((("all", "join", ("a", "b/c")), ("out/n", "names", ""), ("p", "pick", "all", "wo")))
>>> [tree_text(tree).split("\n"), read_tree(tree_text(tree)) == tree, book_text(book).split("\n"), read_book(book_text(book)) == book]
[['file a', '| one', '| two', 'file b/c', '| '], True, ['rule all join a b/c', 'rule out/n names', 'rule p pick all wo'], True]

>>> from buildroom.texts import read_steps, steps_text
>>> row = (("write", "a", "x\n"), ("drop", "b/c"), ("swap", 1), ("build",), ("cut", 0))
>>> [steps_text(row).split("\n"), read_steps(steps_text(row)) == row, steps_text(()), read_steps("")]
[['write a', '| x', '| ', 'drop b/c', 'swap 1', 'build', 'cut 0'], True, '', ()]
'''

DESK = r'''
>>> from buildroom.books import Book
>>> from buildroom.desk import Desk
>>> desk = Desk((Book((("out", "sort", "a"),)),), (("a", "b\na"),), ("out",), "whole")
>>> [desk.would(("build",)), desk.texts, desk.do(("build",)), desk.do(("spoil", "out", "x")), desk.would(("build",)), desk.undo(), desk.would(("build",))]
[('out',), (), ('out',), (), ('out',), True, ()]
>>> [desk.redo(), desk.texts, desk.redo(), len(desk), desk.row, desk.undo(), desk.right()]
[True, (('out', 'x'),), False, 2, (('build',), ('spoil', 'out', 'x')), True, True]
'''


class Examples(unittest.TestCase):
    def test_paths(self):
        self.assertEqual(wrong_examples(PATHS), [])

    def test_books(self):
        self.assertEqual(wrong_examples(BOOKS), [])

    def test_running(self):
        self.assertEqual(wrong_examples(RUNNING), [])

    def test_records(self):
        self.assertEqual(wrong_examples(RECORDS), [])

    def test_builders(self):
        self.assertEqual(wrong_examples(BUILDERS), [])

    def test_shops(self):
        self.assertEqual(wrong_examples(SHOPS), [])

    def test_caches(self):
        self.assertEqual(wrong_examples(CACHES), [])

    def test_shelves(self):
        self.assertEqual(wrong_examples(SHELVES), [])

    def test_leads(self):
        self.assertEqual(wrong_examples(LEADS), [])

    def test_machines(self):
        self.assertEqual(wrong_examples(MACHINES), [])

    def test_lists(self):
        self.assertEqual(wrong_examples(LISTS), [])

    def test_slots(self):
        self.assertEqual(wrong_examples(SLOTS), [])

    def test_jobs(self):
        self.assertEqual(wrong_examples(JOBS), [])

    def test_changes(self):
        self.assertEqual(wrong_examples(CHANGES), [])

    def test_tellback(self):
        self.assertEqual(wrong_examples(TELLBACK), [])

    def test_texts(self):
        self.assertEqual(wrong_examples(TEXTS), [])

    def test_desk(self):
        self.assertEqual(wrong_examples(DESK), [])

    def test_an_example_that_does_not_hold_is_told(self):
        self.assertEqual(wrong_examples(">>> 1 + 1\n3\n>>> int('x')\n4"), [
            (">>> 1 + 1", "3", "2"),
            (">>> int('x')", "4", "raises ValueError()"),
        ])


if __name__ == "__main__":
    unittest.main()
