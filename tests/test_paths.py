"""Point 2: paths, folders and texts, each through a function that takes one."""

import unittest

from buildroom.errors import BadFolder, BadPath, BadWords
from buildroom.paths import names_in, put, taken, text_at
from tests.helpers import STRANGE, fault

GOOD_PATHS = (
    "a", "z", "0", "9", "abcdef", "012345", "a1b2c3", "a/b", "a/b/c", "abcdef/ghijkl/mnopqr", "a/a/a", "0/0",
)
WRONG_PATHS = (
    "", "/", "abcdefg", "0123456", "a/bcdefgh", "a/b/cdefghi", "a/b/c/d", "a//b", "/a", "a/", "a/b/", "//",
    "A", "aB", "a b", " a", "a ", "a\n", "\na", "a.b", "a-b", "a_b", "a\\b", "`", "{", ":", "a\tb",
    "\xe9", "\u0430", "\u0661", "\xb2", "\uff41", "\ud800", "a\x00",
)


class Paths(unittest.TestCase):
    def test_paths(self):
        for path in GOOD_PATHS:
            with self.subTest(path):
                self.assertIsNone(text_at((), path))
                self.assertEqual(put((), path, "x"), ((path, "x"),))
                self.assertEqual(taken(((path, "x"),), path), ())

    def test_no_paths(self):
        for value in WRONG_PATHS + STRANGE + ((), "a" * 10000, "a/" * 10000):
            with self.subTest(value=value):
                self.assertEqual(fault(text_at, (), value), (BadPath, {}))
                self.assertEqual(fault(put, (), value, "x"), (BadPath, {}))
                self.assertEqual(fault(taken, (), value), (BadPath, {}))

    def test_each_sign_of_a_name(self):
        good = [chr(code) for code in range(300) if fault(text_at, (), chr(code)) == ("returned", None)]
        self.assertEqual("".join(good), "0123456789abcdefghijklmnopqrstuvwxyz")

    def test_folders(self):
        for folder in GOOD_PATHS + ("",):
            with self.subTest(folder):
                self.assertEqual(names_in((), folder), ())

    def test_no_folders(self):
        for value in WRONG_PATHS[1:] + STRANGE + ((),):
            with self.subTest(value=value):
                self.assertEqual(fault(names_in, (), value), (BadFolder, {}))


class Texts(unittest.TestCase):
    def test_texts(self):
        for text in ("", "\n", " ", "~", "a" * 200, "\n" * 200, "".join(map(chr, range(32, 127)))):
            with self.subTest(text):
                self.assertEqual(put((), "a", text), (("a", text),))

    def test_no_texts(self):
        wrong = ("a" * 201, "\n" * 201, "\t", "a\r\nb", "\x7f", "\x00", "\x1f", "\xe9", "\u2028", "\ud800", "a" * 199 + "\xa0")
        strange = tuple([value for value in STRANGE if not isinstance(value, str)])
        for value in wrong + strange + ((),):
            with self.subTest(value=value):
                self.assertEqual(fault(put, (), "a", value), (BadWords, {}))

    def test_each_sign_of_a_text(self):
        good = [code for code in range(300) if fault(put, (), "a", chr(code))[0] == "returned"]
        self.assertEqual(good, [10] + list(range(32, 127)))


if __name__ == "__main__":
    unittest.main()
