"""The examples of the document's interface, as they stand there."""

import unittest

from tests.helpers import wrong_examples

PATHS = r'''
>>> from buildroom.paths import differing, names_in, put, taken, text_at
>>> tree = (("a", "x"), ("src/b", "y\nz"))
>>> [names_in(tree, ""), names_in(tree, "src"), text_at(tree, "src/b"), text_at(tree, "src"), put(tree, "src/c", "")]
[('a', 'src'), ('b',), 'y\nz', None, (('a', 'x'), ('src/b', 'y\nz'), ('src/c', ''))]
>>> [taken(tree, "a"), differing(tree, put(tree, "a", "w")), differing(tree, ())]
[(('src/b', 'y\nz'),), ['a'], ['a', 'src/b']]
>>> put(tree, "src", "")
raises Clash()
'''

BOOKS = r'''
>>> from buildroom.books import Book, depths, made_paths, right_order, right_ring, told_order, told_ring
>>> book, odd = Book((("out", "join", ("a", "mid")), ("mid", "sort", "a"))), Book((("p", "join", ("q", "a")), ("q", "size", "p")))
>>> [made_paths(book), told_order(book), depths(book), told_ring(book), right_order(book, ("out", "mid")), len(book)]
[['mid', 'out'], ('mid', 'out'), [1, 2], None, False, 2]
>>> [told_ring(odd), right_ring(odd, ("q", "p")), told_order(odd), depths(odd)]
[('p', 'q'), True, None, None]
>>> Book((("a", "size", "b"), ("a/c", "size", "b")))
raises BadRules(index=1)
'''


class Examples(unittest.TestCase):
    def test_paths(self):
        self.assertEqual(wrong_examples(PATHS), [])

    def test_books(self):
        self.assertEqual(wrong_examples(BOOKS), [])

    def test_an_example_that_does_not_hold_is_told(self):
        self.assertEqual(wrong_examples(">>> 1 + 1\n3\n>>> int('x')\n4"), [
            (">>> 1 + 1", "3", "2"),
            (">>> int('x')", "4", "raises ValueError()"),
        ])


if __name__ == "__main__":
    unittest.main()
