"""Points 2 and 3: trees, and what is told and made of them."""

import unittest

from buildroom.errors import Absent, BadFolder, BadPath, BadTree, BadWords, Clash, Full
from buildroom.paths import differing, names_in, put, taken, text_at
from tests.helpers import STRANGE, fault

TREE = (("a", "x"), ("lib/b", ""), ("lib/c/d", "y\n"), ("lib/c/e", "z"), ("lib0", "w"))
FULL = tuple([(f"f{number:02}", str(number)) for number in range(20)])

# What each function that takes a tree gives for it, the other arguments being right.
TAKERS = {
    "text_at": lambda value: fault(text_at, value, "a"),
    "names_in": lambda value: fault(names_in, value, ""),
    "put": lambda value: fault(put, value, "a", ""),
    "taken": lambda value: fault(taken, value, "a"),
    "differing one": lambda value: fault(differing, value, ()),
    "differing other": lambda value: fault(differing, (), value),
}


class Trees(unittest.TestCase):
    def tell(self, value, index):
        for name, taker in TAKERS.items():
            with self.subTest(name, value=value):
                self.assertEqual(taker(value), (BadTree, {"index": index}))

    def test_trees(self):
        self.assertEqual(differing((), ()), [])
        self.assertEqual(differing(TREE, TREE), [])
        self.assertEqual(differing(FULL, FULL), [])

    def test_no_tuples_of_at_most_twenty(self):
        for value in STRANGE + ("", "ab", [("a", "x")], [], FULL + (("g", ""),), FULL + (None,), (None,) * 21):
            if not isinstance(value, tuple) or len(value) > 20:
                self.tell(value, None)

    def test_things_that_are_no_files(self):
        wrong = STRANGE + ((), "", "ab", ("a",), ("a", "x", "y"), ["a", "x"], {"a": "x", "b": "y"})
        for thing in wrong:
            self.tell((thing,), 0)
            self.tell((("a", ""), thing), 1)

    def test_files_without_a_path_or_a_text(self):
        for value in STRANGE + ("", ()):
            self.tell((("a", "x"), (value, "x")), 1)
        for value in STRANGE + ((), "a" * 201, "\t"):
            if value not in ("A", "not a path"):
                self.tell((("a", value),), 0)

    def test_files_that_do_not_ascend(self):
        self.tell((("b", "x"), ("a", "x")), 1)
        self.tell((("a", "x"), ("a", "y")), 1)
        self.tell((("a", "x"), ("c", "x"), ("b", "x"), ("b", "x")), 2)
        self.tell((("a0", "x"), ("a/b", "x")), 1)
        self.tell((("a", "x"), ("c", "x"), ("a", "x")), 2)

    def test_files_within_one_another(self):
        self.tell((("a", "x"), ("a/b", "x")), 1)
        self.tell((("a", "x"), ("a/b/c", "x")), 1)
        self.tell((("a", "x"), ("b/c", "x"), ("b/c/d", "x")), 2)
        self.assertEqual(names_in((("a", ""), ("a0/b", ""), ("ab/c", ""), ("b/a", "")), ""), ("a", "a0", "ab", "b"))

    def test_the_first_wrong_file_is_told(self):
        self.tell((("a", "x"), ("b", 1), ("a", "x"), None), 1)
        self.tell((None, None), 0)
        self.tell(FULL[:19] + (("f18", ""),), 19)


class TextAt(unittest.TestCase):
    def test_text_at(self):
        self.assertEqual([text_at(TREE, path) for path, _ in TREE], [text for _, text in TREE])
        for path in ("b", "lib", "lib/c", "lib/a", "a/b", "lib0/b", "lib/c/f"):
            self.assertIsNone(text_at(TREE, path))
        self.assertIsNone(text_at((), "a"))

    def test_which_error_comes_first(self):
        self.assertEqual(fault(text_at, None, None), (BadTree, {"index": None}))
        self.assertEqual(fault(text_at, (None,), ""), (BadTree, {"index": 0}))
        self.assertEqual(fault(text_at, TREE, ""), (BadPath, {}))


class NamesIn(unittest.TestCase):
    def test_names_in(self):
        self.assertEqual(names_in(TREE, ""), ("a", "lib", "lib0"))
        self.assertEqual(names_in(TREE, "lib"), ("b", "c"))
        self.assertEqual(names_in(TREE, "lib/c"), ("d", "e"))

    def test_folders_without_files(self):
        for folder in ("a", "b", "li", "lib0", "lib/b", "lib/c/d", "a/b/c"):
            self.assertEqual(names_in(TREE, folder), ())
        self.assertEqual(names_in((), ""), ())

    def test_names_ascend_where_paths_do_not(self):
        self.assertEqual(names_in((("a/b", ""), ("a0", ""), ("ab/c", "")), ""), ("a", "a0", "ab"))
        self.assertEqual(names_in((("a/b/c", ""), ("a/b0", ""), ("a/b1/c", "")), "a"), ("b", "b0", "b1"))

    def test_which_error_comes_first(self):
        self.assertEqual(fault(names_in, 1, 1), (BadTree, {"index": None}))
        self.assertEqual(fault(names_in, (1,), "/"), (BadTree, {"index": 0}))
        self.assertEqual(fault(names_in, TREE, "/"), (BadFolder, {}))


class Put(unittest.TestCase):
    def test_a_new_file(self):
        self.assertEqual(put((), "a", ""), (("a", ""),))
        self.assertEqual(put(TREE, "0", "n"), (("0", "n"),) + TREE)
        self.assertEqual(put(TREE, "z/y", "n"), TREE + (("z/y", "n"),))
        self.assertEqual(put(TREE, "lib/c/dd", "n"), TREE[:3] + (("lib/c/dd", "n"),) + TREE[3:])
        self.assertEqual(put((("a0", ""),), "a/b", "n"), (("a/b", "n"), ("a0", "")))

    def test_a_file_that_is_there(self):
        self.assertEqual(put(TREE, "lib/b", "n"), TREE[:1] + (("lib/b", "n"),) + TREE[2:])
        self.assertEqual(put(TREE, "a", "x"), TREE)

    def test_clash(self):
        for path in ("lib", "lib/c", "a/b", "a/b/c", "lib/b/x", "lib0/a"):
            with self.subTest(path):
                self.assertEqual(fault(put, TREE, path, ""), (Clash, {}))

    def test_no_clash_of_paths_that_begin_alike(self):
        for path in ("li", "libs", "lib/bb", "lib/c0", "aa", "lib1/x"):
            with self.subTest(path):
                self.assertEqual(text_at(put(TREE, path, "n"), path), "n")

    def test_twenty_and_twenty_one_files(self):
        self.assertEqual(put(FULL[:19], "f19", "19"), FULL)
        self.assertEqual(put(FULL, "f07", "n"), FULL[:7] + (("f07", "n"),) + FULL[8:])
        for path in ("g", "a", "f20", "f0", "g/f07"):
            self.assertEqual(fault(put, FULL, path, ""), (Full, {}))

    def test_which_error_comes_first(self):
        self.assertEqual(fault(put, FULL, "f07/a", ""), (Clash, {}))
        self.assertEqual(fault(put, FULL, "f07/a", "\t"), (BadWords, {}))
        self.assertEqual(fault(put, FULL, "g", None), (BadWords, {}))
        self.assertEqual(fault(put, FULL, "f07/A", "\t"), (BadPath, {}))
        self.assertEqual(fault(put, FULL + FULL, "", 1), (BadTree, {"index": None}))
        self.assertEqual(fault(put, FULL[:3] + FULL[:3], "", 1), (BadTree, {"index": 3}))


class Taken(unittest.TestCase):
    def test_taken(self):
        for index, (path, _) in enumerate(TREE):
            self.assertEqual(taken(TREE, path), TREE[:index] + TREE[index + 1:])
        self.assertEqual(taken(FULL, "f19"), FULL[:19])

    def test_absent(self):
        for path in ("b", "lib", "lib/c", "a/b", "lib0/a", "lib/c/f"):
            with self.subTest(path):
                self.assertEqual(fault(taken, TREE, path), (Absent, {}))
        self.assertEqual(fault(taken, (), "a"), (Absent, {}))

    def test_which_error_comes_first(self):
        self.assertEqual(fault(taken, (("a",),), "A"), (BadTree, {"index": 0}))
        self.assertEqual(fault(taken, (), "A"), (BadPath, {}))


class Differing(unittest.TestCase):
    def test_differing(self):
        self.assertEqual(differing(TREE, ()), ["a", "lib/b", "lib/c/d", "lib/c/e", "lib0"])
        self.assertEqual(differing((), TREE), differing(TREE, ()))
        self.assertEqual(differing((("a", ""), ("b", "x"), ("d", "")), (("a", "y"), ("b", "x"), ("c", ""))), ["a", "c", "d"])

    def test_an_empty_text_is_not_no_file(self):
        self.assertEqual(differing((("a", ""),), ()), ["a"])
        self.assertEqual(differing((), (("a", ""),)), ["a"])

    def test_the_paths_ascend(self):
        self.assertEqual(differing((("b", ""), ("d", "")), (("a", ""), ("c", ""), ("e", ""))), ["a", "b", "c", "d", "e"])
        self.assertEqual(differing((("a0", ""),), (("a/b", ""), ("ab", ""))), ["a/b", "a0", "ab"])

    def test_more_than_twenty_paths(self):
        other = tuple([(path.replace("f", "g"), text) for path, text in FULL])
        self.assertEqual(differing(other, FULL), [path for path, _ in FULL + other])

    def test_which_error_comes_first(self):
        self.assertEqual(fault(differing, (1,), 1), (BadTree, {"index": 0}))
        self.assertEqual(fault(differing, 1, (1,)), (BadTree, {"index": None}))


if __name__ == "__main__":
    unittest.main()
