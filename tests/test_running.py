"""Points 6 and 7: looks, outcomes and records of rules, and clean builds."""

import random
import unittest

from buildroom.books import Book
from buildroom.errors import BadBook, BadMade, BadTree
from buildroom.running import clean, reads_behind, run
from tests.chance import FILES, MADE, some_book, some_tree
from tests.helpers import STRANGE, fault
from tests.models import clean_model

LONG = "z" * 200


def ran(rule, *files, others=()):
    """What the rule that makes m gives over these files, in a book with these others."""
    return run(Book((rule,) + others), tuple(sorted(files)), "m")


def text(words, *looks):
    return (("text", words), looks)


class Kinds(unittest.TestCase):
    def test_join(self):
        a, b = ("text", "a", "x\n"), ("text", "b", "y")
        files = (("a", "x\n"), ("b", "y"))
        self.assertEqual(ran(("m", "join", ("b", "a")), *files), text("yx\n", b, a))
        self.assertEqual(ran(("m", "join", ("a", "a", "b", "a")), *files), text("x\nx\nyx\n", a, a, b, a))
        self.assertEqual(ran(("m", "join", ()), *files), text(""))
        self.assertEqual(ran(("m", "join", ("a",)), ("a", "")), text("", ("text", "a", "")))

    def test_size(self):
        for words, size in (("", "0"), ("abc", "3"), ("\n", "1"), ("a\nb c~", "6"), (LONG, "200")):
            self.assertEqual(ran(("m", "size", "a"), ("a", words)), text(size, ("text", "a", words)))

    def test_sort(self):
        for words, lines in (("", ""), ("b\na", "a\nb"), ("b\n\na", "\na\nb"), ("a\nA\n \n~\na", " \nA\na\na\n~"),
                             ("\n", "\n"),
                             ("10\n9\n1", "1\n10\n9"), ("a\n", "\na")):
            self.assertEqual(ran(("m", "sort", "a"), ("a", words)), text(lines, ("text", "a", words)))

    def test_pick(self):
        for words, lines in (("", ""), ("xx\ny\naxxb", "xx\naxxb"), ("x\nx", ""), ("xxx\nxxx", "xxx\nxxx"),
                             ("b xx\na xx", "b xx\na xx")):
            self.assertEqual(ran(("m", "pick", "a", "xx"), ("a", words)), text(lines, ("text", "a", words)))
        self.assertEqual(ran(("m", "pick", "a", " "), ("a", "\n \nx")), text(" ", ("text", "a", "\n \nx")))

    def test_names(self):
        files = (("a", "x"), ("lib/b", ""), ("lib/c/d", ""), ("lib/c/e", ""), ("lib0", ""))
        self.assertEqual(ran(("m", "names", ""), *files), text("a\nlib\nlib0", ("names", "", ("a", "lib", "lib0"))))
        self.assertEqual(ran(("m", "names", "lib"), *files), text("b\nc", ("names", "lib", ("b", "c"))))
        self.assertEqual(ran(("m", "names", "lib/c"), *files), text("d\ne", ("names", "lib/c", ("d", "e"))))
        for folder in ("a", "li", "lib/b", "no"):
            self.assertEqual(ran(("m", "names", folder), *files), text("", ("names", folder, ())))
        self.assertEqual(ran(("m", "names", "")), text("", ("names", "", ())))

    def test_names_are_those_of_the_tree_alone(self):
        book = Book((("m", "names", ""), ("o", "names", "p"), ("p/q", "size", "a")))
        self.assertEqual(run(book, (("a", ""),), "m"), text("a", ("names", "", ("a",))))
        self.assertEqual(run(book, (("a", ""),), "o"), text("", ("names", "p", ())))
        self.assertEqual(run(book, (("a", ""), ("m/n", ""), ("p/q", "")), "m"),
                         text("a\nm\np", ("names", "", ("a", "m", "p"))))
        self.assertEqual(run(book, (("p/q", ""),), "o"), text("q", ("names", "p", ("q",))))

    def test_use(self):
        first = "use b\n use b\nuse  b\nuse b \nUse b\nuse\nuse \nuse B\nuse b c\nuseb\nuse b/c\nuse b"
        looks = (("text", "a", first), ("text", "b", "B\nB"), ("text", "b/c", ""), ("text", "b", "B\nB"))
        book = Book((("m", "use", "a"), ("b", "join", ("t",)), ("b0", "size", "t")))
        words = "B\nB\n use b\nuse  b\nuse b \nUse b\nuse\nuse \nuse B\nuse b c\nuseb\n\nB\nB"
        self.assertEqual(run(book, (("a", first), ("b/c", ""), ("t", "B\nB")), "m"), text(words, *looks))

    def test_use_without_such_lines(self):
        for words in ("", "x", "\n", "use abcdefg", "use a/b/c/d", "use /a", "a\nxuse a"):
            self.assertEqual(ran(("m", "use", "a"), ("a", words)), text(words, ("text", "a", words)))

    def test_used_texts_are_not_used_again(self):
        looks = (("text", "a", "use b"), ("text", "b", "use c"))
        self.assertEqual(ran(("m", "use", "a"), ("a", "use b"), ("b", "use c"), ("c", "x")), text("use c", *looks))

    def test_use_of_what_it_looks_at_first(self):
        self.assertEqual(ran(("m", "use", "a"), ("a", "use a\nx")),
                         text("use a\nx\nx", *[("text", "a", "use a\nx")] * 2))

    def test_choose(self):
        files = (("b", "B"), ("c", "C"))
        self.assertEqual(ran(("m", "choose", "a", "b", "c"), ("a", "yes"), *files),
                         text("B", ("text", "a", "yes"), ("text", "b", "B")))
        for words in ("", "no", "yes\n", " yes", "Yes", "yesyes"):
            looks = (("text", "a", words), ("text", "c", "C"))
            self.assertEqual(ran(("m", "choose", "a", "b", "c"), ("a", words), *files), text("C", *looks))
        self.assertEqual(ran(("m", "choose", "a", "a", "c"), ("a", "yes")), text("yes", *[("text", "a", "yes")] * 2))

    def test_need(self):
        for words in ("ab", "xaby", "x\nab\n"):
            self.assertEqual(ran(("m", "need", "a", "ab"), ("a", words)), text(words, ("text", "a", words)))
        for words in ("", "a\nb", "AB", "ba"):
            self.assertEqual(ran(("m", "need", "a", "ab"), ("a", words)), (("lacks",), (("text", "a", words),)))

    def test_a_missing_look_at_each_place(self):
        b, c = ("text", "b", "B"), ("text", "c", "C")
        files, none = (("b", "B"), ("c", "C")), ("missing", "no")
        for paths, looks in ((("no", "b", "c"), ()), (("b", "no", "c"), (b,)), (("b", "c", "no"), (b, c)),
                             (("b", "no", "no"), (b,))):
            self.assertEqual(ran(("m", "join", paths), *files), (none, looks + (none,)))
        for kind in ("size", "sort", "use"):
            self.assertEqual(ran(("m", kind, "no"), *files), (none, (none,)))
        for kind in ("pick", "need"):
            self.assertEqual(ran(("m", kind, "no", "x"), *files), (none, (none,)))
        self.assertEqual(ran(("m", "choose", "no", "b", "c"), *files), (none, (none,)))
        self.assertEqual(ran(("m", "choose", "b", "c", "no"), *files), (none, (b, none)))
        first = ("text", "a", "use b\nuse no\nuse c")
        self.assertEqual(ran(("m", "use", "a"), first[1:], *files), (none, (first, b, none)))

    def test_a_stopped_look_at_each_place(self):
        lack = ("o", "need", "b", "x")
        b, stop = ("text", "b", "B"), ("stopped", "o")
        for rule, looks in ((("m", "join", ("o", "b")), ()), (("m", "join", ("b", "o", "b")), (b,)),
                            (("m", "size", "o"), ()),
                            (("m", "sort", "o"), ()), (("m", "pick", "o", "x"), ()), (("m", "use", "o"), ()),
                            (("m", "need", "o", "x"), ()), (("m", "choose", "o", "b", "b"), ()),
                            (("m", "choose", "b", "b", "o"), (b,))):
            with self.subTest(rule):
                self.assertEqual(ran(rule, ("b", "B"), others=(lack,)), (stop, looks + (stop,)))
        self.assertEqual(ran(("m", "use", "a"), ("a", "use o"), ("b", "B"), others=(lack,)),
                         (stop, (("text", "a", "use o"), stop)))

    def test_each_outcome_without_a_text_stops(self):
        for rule, outcome in ((("o", "size", "no"), ("missing", "no")), (("o", "need", "b", "x"), ("lacks",)),
                              (("o", "join", ("l", "l", "b")), ("long",)), (("o", "size", "p"), ("stopped", "p"))):
            book = Book((rule, ("p", "need", "b", "x"), ("m", "join", ("o",))))
            tree = (("b", "B"), ("l", LONG))
            self.assertEqual(run(book, tree, "o")[0], outcome)
            self.assertEqual(run(book, tree, "m"), (("stopped", "o"), (("stopped", "o"),)))

    def test_texts_of_400_and_401_signs(self):
        two = Book((("two", "join", ("l", "l")), ("m", "sort", "two"), ("n", "size", "two"),
                    ("o", "join", ("two", "x")), ("p", "size", "o")))
        tree = (("l", LONG), ("x", "x"))
        self.assertEqual(clean(two, tree), (
            ("m", ("text", LONG + LONG)), ("n", ("text", "400")), ("o", ("long",)), ("p", ("stopped", "o")),
                                            ("two", ("text", LONG + LONG))))
        self.assertEqual(run(two, tree, "o"), (("long",), (("text", "two", LONG + LONG), ("text", "x", "x"))))

    def test_long_texts_of_use_and_choose(self):
        book = Book((("two", "join", ("l", "l")), ("m", "use", "a"), ("n", "choose", "y", "two", "no"),
                     ("o", "need", "two", "zz")))
        tree = (("a", "use two"), ("l", LONG), ("y", "yes"))
        self.assertEqual([run(book, tree, made)[0] for made in ("m", "n", "o")], [("text", LONG + LONG)] * 3)
        self.assertEqual(run(book, (("a", "use two\n"),) + tree[1:], "m")[0], ("long",))

    def test_a_made_path_is_seen_as_it_is_made(self):
        book = Book((("a", "size", "b"), ("m", "join", ("a", "b"))))
        looks = (("text", "a", "3"), ("text", "b", "xyz"))
        self.assertEqual(run(book, (("a", "the file"), ("b", "xyz")), "m"), text("3xyz", *looks))
        self.assertEqual(run(book, (("a", "the file"),), "m"), (("stopped", "a"), (("stopped", "a"),)))


class Clean(unittest.TestCase):
    def test_the_order_of_the_rules_does_not_matter(self):
        rules = (("d", "join", ("c", "b")), ("c", "size", "b"), ("b", "join", ("a", "s")), ("a", "sort", "s"))
        for many in (1, -1):
            self.assertEqual(clean(Book(rules[::many]), (("s", "y"),)), (
                ("a", ("text", "y")), ("b", ("text", "yy")), ("c", ("text", "2")), ("d", ("text", "2yy"))))

    def test_nothing_made(self):
        self.assertEqual(clean(Book(()), (("s", "y"),)), ())

    def test_rings(self):
        book = Book((("a", "size", "b"), ("b", "join", ("s", "c")), ("c", "sort", "b"), ("d", "join", ("s",)),
                     ("e", "size", "e"),
                     ("f", "join", ("s", "a"))))
        ring = ("ring",)
        self.assertEqual(clean(book, (("s", "x"),)), (
            ("a", ring), ("b", ring), ("c", ring), ("d", ("text", "x")), ("e", ring), ("f", ring)))
        for made in "abcef":
            self.assertEqual(run(book, (("s", "x"),), made), (ring, None))

    def test_rings_that_are_come_to_only_on_the_way(self):
        book = Book((("a", "choose", "s", "b", "t"), ("b", "join", ("t", "a")), ("c", "use", "s")))
        self.assertEqual(clean(book, (("s", "yes"), ("t", "x"))),
                         (("a", ("ring",)), ("b", ("ring",)), ("c", ("text", "yes"))))
        self.assertEqual(clean(book, (("s", "no"), ("t", "x"))),
                         (("a", ("text", "x")), ("b", ("text", "xx")), ("c", ("text", "no"))))
        self.assertEqual(clean(book, (("s", "yes"),)), (("a", ("stopped", "b")), ("b", ("missing", "t")),
                                                        ("c", ("text", "yes"))))
        found = Book((("c", "use", "s"), ("d", "size", "c")))
        self.assertEqual(clean(found, (("s", "x\nuse c"),)), (("c", ("ring",)), ("d", ("ring",))))
        self.assertEqual(clean(found, (("s", "use d"),)), (("c", ("ring",)), ("d", ("ring",))))
        self.assertEqual(clean(found, (("s", "use no\nuse d"),)), (("c", ("missing", "no")), ("d", ("stopped", "c"))))

    def test_against_the_model(self):
        dice = random.Random(6)
        outcomes = {}
        for _ in range(600):
            book, tree = some_book(dice), some_tree(dice, FILES + ("a",))
            with self.subTest(book.rules, tree=tree):
                model = clean_model(book, tree)
                self.assertEqual(clean(book, tree), tuple([(made, told[0] if told else ("ring",)) for made,
                                                           told in model.items()]))
                for made, told in model.items():
                    self.assertEqual(run(book, tree, made), told or (("ring",), None))
                    outcomes[told[0][0] if told else "ring"] = True
        self.assertLessEqual({"text", "ring", "lacks", "missing", "stopped"}, set(outcomes))


class ReadsBehind(unittest.TestCase):
    def test_through_made_paths(self):
        book = Book((("a", "join", ("b", "s")), ("b", "choose", "t", "c", "d"), ("c", "names", "lib"),
                     ("d", "join", ("u", "no", "v"))))
        tree = (("lib/x", ""), ("s", ""), ("t", "yes"), ("u", ""), ("v", ""))
        self.assertEqual(reads_behind(book, tree, "a"), ["b", "c", "s", "t"])
        self.assertEqual(reads_behind(book, tree, "c"), [])
        self.assertEqual(reads_behind(book, tree, "d"), ["no", "u"])
        self.assertEqual(reads_behind(book, tree[:2] + (("t", "no"),) + tree[3:], "a"), ["b", "d", "no", "t", "u"])

    def test_each_path_once(self):
        book = Book((("a", "join", ("s", "b", "s", "b")), ("b", "join", ("s", "s"))))
        self.assertEqual(reads_behind(book, (("s", "x"),), "a"), ["b", "s"])

    def test_what_is_found_on_the_way(self):
        book = Book((("a", "use", "s"), ("b", "size", "t")))
        self.assertEqual(reads_behind(book, (("s", "use b\nuse u"), ("t", "")), "a"), ["b", "s", "t", "u"])

    def test_as_far_as_rings_come(self):
        book = Book((("a", "join", ("s", "c", "b", "t")), ("b", "join", ("u", "a")), ("c", "size", "v"),
                     ("d", "join", ("c", "a", "u"))))
        tree = (("s", ""), ("t", ""), ("u", ""), ("v", ""))
        self.assertEqual(reads_behind(book, tree, "a"), ["c", "s", "v"])
        self.assertEqual(reads_behind(book, tree, "b"), ["u"])
        self.assertEqual(reads_behind(book, tree, "d"), ["c", "v"])
        self.assertEqual(reads_behind(Book((("e", "size", "e"),)), (), "e"), [])

    def test_against_the_records(self):
        dice = random.Random(7)
        for _ in range(300):
            book, tree = some_book(dice), some_tree(dice)
            model = clean_model(book, tree)
            reads = {made: reads_behind(book, tree, made) for made in MADE}
            for made in MADE:
                if model[made]:
                    paths = {look[1] for look in model[made][1] if look[0] != "names"}
                    self.assertEqual(reads[made],
                                     sorted(paths.union(*[reads[path] for path in paths if path in model])))


class Wrong(unittest.TestCase):
    def test_which_error_comes_first(self):
        book = Book((("m", "size", "a"),))
        for call in (run, reads_behind):
            self.assertEqual(fault(call, None, None, None), (BadBook, {}))
            self.assertEqual(fault(call, book, (None,), None), (BadTree, {"index": 0}))
            self.assertEqual(fault(call, book, None, "m"), (BadTree, {"index": None}))
            self.assertEqual(fault(call, book, (), None), (BadMade, {}))
        self.assertEqual(fault(clean, None, None), (BadBook, {}))
        self.assertEqual(fault(clean, book, [None]), (BadTree, {"index": None}))
        self.assertEqual(fault(clean, book, (("b", ""), ("a", ""))), (BadTree, {"index": 1}))

    def test_any_value(self):
        book = Book((("m", "size", "a"),))
        for value in STRANGE + ("", "a", "m/n", ("m",), ["m"], {"m": "m"}):
            with self.subTest(value=value):
                self.assertEqual(fault(run, book, (("a", ""),), value), (BadMade, {}))
                self.assertEqual(fault(reads_behind, book, (("a", ""),), value), (BadMade, {}))
                self.assertEqual(fault(clean, value, ()), (BadBook, {}))
                self.assertEqual(fault(run, value, (), "m"), (BadBook, {}))
                self.assertEqual(fault(reads_behind, value, (), "m"), (BadBook, {}))


if __name__ == "__main__":
    unittest.main()
