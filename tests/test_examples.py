"""The examples of the document's interface, as they stand there."""

import unittest

from tests.helpers import wrong_examples

PATHS = r'''
>>> from buildroom.paths import differing, names_in, put, taken, text_at
>>> tree = (("a", "x"), ("src/b", "y\nz"))
>>> [names_in(tree, ""), names_in(tree, "src"), text_at(tree, "src/b"), text_at(tree, "src"), put(tree, "src/c", "")]
[('a', 'src'), ('b',), 'y\nz', None, (('a', 'x'), ('src/b', 'y\nz'), ('src/c', ''))]
>>> [taken(tree, "a"), differing(tree, put(tree, "a", "w")), differing(tree, ())]
[(('src/b', 'y\nz'),), ['a'], ['a', 'src/b']]
>>> put(tree, "src", "")
raises Clash()
'''

BOOKS = r'''
>>> from buildroom.books import Book, depths, made_paths, right_order, right_ring, told_order, told_ring
>>> book, odd = Book((("out", "join", ("a", "mid")), ("mid", "sort", "a"))), Book((("p", "join", ("q", "a")), ("q", "size", "p")))
>>> [made_paths(book), told_order(book), depths(book), told_ring(book), right_order(book, ("out", "mid")), len(book)]
[['mid', 'out'], ('mid', 'out'), [1, 2], None, False, 2]
>>> [told_ring(odd), right_ring(odd, ("q", "p")), told_order(odd), depths(odd)]
[('p', 'q'), True, None, None]
>>> Book((("a", "size", "b"), ("a/c", "size", "b")))
raises BadRules(index=1)
'''

RUNNING = r'''
>>> from buildroom.books import Book
>>> from buildroom.running import clean, reads_behind, run
>>> book = Book((("out", "join", ("a", "mid")), ("mid", "sort", "a"), ("n", "size", "out"), ("all", "names", "")))
>>> clean(book, (("a", "b\na"),))
(('all', ('text', 'a')), ('mid', ('text', 'a\nb')), ('n', ('text', '6')), ('out', ('text', 'b\naa\nb')))
>>> [run(book, (("a", "b\na"),), "out"), reads_behind(book, (("a", "b\na"),), "n"), run(book, (), "n")]
[(('text', 'b\naa\nb'), (('text', 'a', 'b\na'), ('text', 'mid', 'a\nb'))), ['a', 'mid', 'out'], (('stopped', 'out'), (('stopped', 'out'),))]
>>> found = Book((("o", "use", "main"), ("c", "choose", "main", "part", "no"), ("w", "need", "main", "end"), ("z", "pick", "z", "x")))
>>> clean(found, (("main", "use part\nend"), ("part", "P")))
(('c', ('missing', 'no')), ('o', ('text', 'P\nend')), ('w', ('text', 'use part\nend')), ('z', ('ring',)))
'''

RECORDS = r'''
>>> from buildroom.books import Book
>>> from buildroom.records import blunt_replays, blunted, first_changed, replays, right_record, told_by
>>> size, record = ("n", "size", "a"), (("text", "a", "abc"),)
>>> [told_by(size, record), blunted(size, record), right_record(size, ()), right_record(size, (("missing", "a"),))]
[('text', '3'), (('size', 'a', 3),), False, True]
>>> book = Book((size,))
>>> [replays(book, (("a", "xyz"),), size, record), first_changed(book, (("a", "xyz"),), size, record), blunt_replays(book, (("a", "xyz"),), size, record), blunt_replays(book, (("a", "xy"),), size, record)]
[False, 0, True, False]
'''

BUILDERS = r'''
>>> from buildroom.books import Book
>>> from buildroom.builders import Builder
>>> books = (Book((("out", "sort", "a"),)),)
>>> builder = Builder(books, (("a", "b\na"),), ("out",), "records")
>>> [builder.do(("build",)), builder.lying, builder.do(("build",)), builder.do(("write", "a", "c")), builder.right(), builder.do(("build",)), builder.right()]
[('out',), (('out', 'a\nb'),), (), (), False, ('out',), True]
>>> [builder.do(("spoil", "out", "x")), builder.do(("build",)), builder.right(), builder.do(("forget", "out")), builder.do(("build",)), builder.lying]
[(), (), False, (), ('out',), (('out', 'c'),)]
>>> older = Builder(books, (("a", "long"),), ("out",), "moments")
>>> [older.do(("cut", 0)), older.lying, older.do(("build",)), older.lying, older.do(("back", "a", "c")), older.do(("touch", "a")), older.do(("build",)), older.lying]
[('out',), (('out', 'lo'),), (), (('out', 'lo'),), (), (), ('out',), (('out', 'c'),)]
'''

SHOPS = r'''
>>> from buildroom.books import Book
>>> from buildroom.shops import Shop, always_right, first_apart, first_needless, first_wrong, follow, left_by
>>> shop = Shop((Book((("out", "sort", "a"),)),), (("a", "b"),), ("out",), (("build",), ("back", "a", "c"), ("touch", "a")))
>>> [first_wrong(shop, "moments"), always_right(shop, "records"), first_needless(shop, "moments"), first_needless(shop, "records"), first_apart(shop, "moments", "records")]
[(0, 1, 0), True, (0, 2, 0), None, (0, 1, 0)]
>>> [follow(shop, "moments", (0, 2, 0)), left_by(shop, "moments", (0, 1, 0)), first_needless(shop, "always")]
[[('out',), (), ('out',)], ((('a', 'c'),), (('out', 'b'),)), (0, 0)]
'''

CACHES = r'''
>>> from buildroom.books import Book
>>> from buildroom.caches import Store, true_entry
>>> book, store = Book((("out", "join", ("a", "mid")), ("mid", "sort", "b"))), Store(1, "eldest", ())
>>> [store.build(book, (("a", "x"), ("b", "y")), ("out",)), store.build(book, (("a", "z"), ("b", "y")), ("out",)), store.build(book, (("a", "x"), ("b", "y")), ("out",))]
[(('xy',), ('mid', 'out'), (), ()), (('zy',), ('out',), (), ('mid',)), (('xy',), (), (), ('mid', 'out'))]
>>> [len(store), store.near, true_entry((("mid", "sort", "b"), (("text", "b", "y"),), "y")), true_entry((("mid", "sort", "b"), (("text", "b", "y"),), "z")), store.forget()]
[3, ((('out', 'join', ('a', 'mid')), (('text', 'a', 'x'), ('text', 'mid', 'y')), 'xy'),), True, False, 1]
'''

SHELVES = r'''
>>> from buildroom.shelves import shelf_course, shelf_hits, shelf_lies
>>> row = (0, 1, 2, 0, 1, 0, 3, 0)
>>> [shelf_course(("eldest", 2), (0, 1, 0, 2, 0)), shelf_course(("lately", 2), (0, 1, 0, 2, 0))]
[[(False, None), (False, None), (True, None), (False, 0), (False, 1)], [(False, None), (False, None), (True, None), (False, 1), (True, None)]]
>>> [[shelf_hits((rule, 2), row) for rule in ("eldest", "lately", "newest", "seldom", "best")], shelf_lies(("best", 2), row)]
[[1, 2, 3, 2, 3], (0, 3)]
'''

LEADS = r'''
>>> from buildroom.leads import lead, lead_by_length, lead_count, lead_loop, lead_paper, lead_row, lead_shows
>>> [lead(("lately", 1), ("eldest", 1), 3), lead_row(("lately", 2), ("lately", 1), 3), lead(("eldest", 1), ("eldest", 2), 3), lead(("best", 2), ("lately", 2), 3)]
[0, (), None, 0]
>>> [lead_paper(("eldest", 1), ("lately", 1), 2), lead_shows(("eldest", 1), ("lately", 1), 2, 0, [(((), ()), 0), (((0,), (0,)), 0), (((1,), (1,)), 0)])]
[[(((), ()), 0), (((0,), (0,)), 0), (((1,), (1,)), 0)], True]
>>> [lead_by_length(("lately", 2), ("eldest", 2), 3, 5), lead_by_length(("eldest", 2), ("lately", 2), 3, 5), lead_count(("eldest", 1), ("eldest", 2), 2, 3)]
[(1, (0, 1, 0, 2, 1)), (1, (0, 1, 0, 2, 0)), 2]
'''


class Examples(unittest.TestCase):
    def test_paths(self):
        self.assertEqual(wrong_examples(PATHS), [])

    def test_books(self):
        self.assertEqual(wrong_examples(BOOKS), [])

    def test_running(self):
        self.assertEqual(wrong_examples(RUNNING), [])

    def test_records(self):
        self.assertEqual(wrong_examples(RECORDS), [])

    def test_builders(self):
        self.assertEqual(wrong_examples(BUILDERS), [])

    def test_shops(self):
        self.assertEqual(wrong_examples(SHOPS), [])

    def test_caches(self):
        self.assertEqual(wrong_examples(CACHES), [])

    def test_shelves(self):
        self.assertEqual(wrong_examples(SHELVES), [])

    def test_leads(self):
        self.assertEqual(wrong_examples(LEADS), [])

    def test_an_example_that_does_not_hold_is_told(self):
        self.assertEqual(wrong_examples(">>> 1 + 1\n3\n>>> int('x')\n4"), [
            (">>> 1 + 1", "3", "2"),
            (">>> int('x')", "4", "raises ValueError()"),
        ])


if __name__ == "__main__":
    unittest.main()
