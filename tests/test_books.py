"""Point 4: rules, and books of them."""

import unittest

from buildroom.books import Book, depths, made_paths, right_order, right_ring, told_order, told_ring
from buildroom.errors import BadBook, BadRules
from tests.helpers import STRANGE, fault

GOOD_RULES = (
    ("m", "join", ()), ("m", "join", ("a",)), ("m", "join", ("a", "a", "m", "b/c/d")),
    ("m", "size", "a"), ("m", "sort", "m"), ("m", "use", "a/b"), ("m/n/o", "size", "m"),
    ("m", "pick", "a", "x"), ("m", "pick", "a", "12345678"), ("m", "pick", "a", " "), ("m", "pick", "a", "~ ~"),
    ("m", "need", "a", "x"), ("m", "need", "a", "        "), ("m", "need", "m", "a/b"),
    ("m", "names", ""), ("m", "names", "a"), ("m", "names", "m"), ("m", "names", "a/b/c"),
    ("m", "choose", "a", "b", "c"), ("m", "choose", "m", "m", "m"),
)
WRONG_RULES = (
    (), ("m",), ("m", "size"), ("m", "size", "a", "b"), ("m", "size", ""), ("m", "size", ("a",)), ("m", "sort"),
    ("m", "sort", "a", "a"), ("m", "use", ""), ("m", "use", "A"), ("m", "use", "a", "b"), ("m", "use"),
    ("m", "join"), ("m", "join", "a"), ("m", "join", ["a"]), ("m", "join", "a", "b"), ("m", "join", ("a",), ("b",)),
    ("m", "join", ("a",) * 5), ("m", "join", ("a", "")), ("m", "join", ("a", None)), ("m", "join", (("a",),)),
    ("m", "join", {}), ("m", "join", None), ("m", "join", ("a", "b", "c", "D")),
    ("m", "pick", "a"), ("m", "pick", "a", ""), ("m", "pick", "a", "123456789"), ("m", "pick", "a", "x\n"),
    ("m", "pick", "a", "\n"), ("m", "pick", "a", "\t"), ("m", "pick", "a", "\x7f"), ("m", "pick", "a", "\xe9"),
    ("m", "pick", "", "x"), ("m", "pick", "a", "x", "y"), ("m", "pick", "a", ("x",)), ("m", "pick", "a", 1),
    ("m", "need", "a"), ("m", "need", "a", ""), ("m", "need", "a", "123456789"), ("m", "need", "a", "\nx"),
    ("m", "need", "a", None), ("m", "need", "a b", "x"), ("m", "need", "a", "x", "y"),
    ("m", "names"), ("m", "names", "/"), ("m", "names", "a/"), ("m", "names", None), ("m", "names", "a", "b"),
    ("m", "names", ()), ("m", "names", "a/b/c/d"),
    ("m", "choose", "a"), ("m", "choose", "a", "b"), ("m", "choose", "a", "b", "c", "d"), ("m", "choose", "", "b", "c"),
    ("m", "choose", "a", "", "c"), ("m", "choose", "a", "b", ""), ("m", "choose", ("a", "b", "c")),
    ("", "size", "a"), ("M", "size", "a"), ("abcdefg", "size", "a"), ("a/b/c/d", "size", "a"), (1, "size", "a"),
    (None, "size", "a"), (("m",), "size", "a"), (["m"], "size", "a"), (True, "size", "a"), ({}, "size", "a"),
    ("m", "", "a"), ("m", "Size", "a"), ("m", "length", "a"), ("m", None, "a"), ("m", ["size"], "a"), ("m", {}, "a"),
    ("m", ("size",), "a"), ("m", 0, "a"), ("m", True, "a"), ("m", "size ", "a"), ("size", "m", "a"),
    ["m", "size", "a"], "msa", "size", {"m": "size", "a": "a"}, {0: "m", 1: "size", 2: "a"},
)
EIGHT = tuple([(f"m{number}", "size", "a") for number in range(8)])


class Rules(unittest.TestCase):
    def test_rules(self):
        for rule in GOOD_RULES:
            with self.subTest(rule):
                self.assertEqual(Book((rule,)).rules, (rule,))
                self.assertEqual(made_paths(Book((rule,))), [rule[0]])

    def test_no_rules(self):
        for thing in WRONG_RULES + STRANGE:
            with self.subTest(thing=thing):
                self.assertEqual(fault(Book, (thing,)), (BadRules, {"index": 0}))
                self.assertEqual(fault(Book, EIGHT[:7] + (thing,)), (BadRules, {"index": 7}))

    def test_strange_things_within_rules(self):
        for value in STRANGE + ("",):
            for rule in ((value, "sort", "a"), ("m", "sort", value), ("m", "use", value), ("m", "need", value, "x"),
                         ("m", "choose", "a", value, "b"), ("m", "join", ("a", value)), ("m", value, "a")):
                with self.subTest(rule=rule):
                    self.assertEqual(fault(Book, (rule,)), (BadRules, {"index": 0}))

    def test_each_sign_of_a_word(self):
        for kind in ("pick", "need"):
            good = [code for code in range(300) if fault(Book, (("m", kind, "a", chr(code)),))[0] == "returned"]
            self.assertEqual(good, list(range(32, 127)))


class Books(unittest.TestCase):
    def test_no_tuples_of_at_most_eight(self):
        wrong = tuple([value for value in STRANGE if not isinstance(value, tuple)])
        for value in wrong + ("", [], list(EIGHT), EIGHT + (("n", "size", "a"),), (None,) * 9, Book(EIGHT), ["size"] * 9):
            with self.subTest(value=value):
                self.assertEqual(fault(Book, value), (BadRules, {"index": None}))

    def test_empty_eight_and_nine_rules(self):
        self.assertEqual([len(Book(())), Book(()).rules, made_paths(Book(()))], [0, (), []])
        self.assertEqual([len(Book(EIGHT)), Book(EIGHT).rules], [8, EIGHT])
        self.assertEqual(fault(Book, EIGHT + EIGHT[:1]), (BadRules, {"index": None}))

    def test_rules_stay_in_their_order(self):
        book = Book(EIGHT[::-1])
        self.assertEqual(book.rules, EIGHT[::-1])
        self.assertEqual(made_paths(book), [rule[0] for rule in EIGHT])
        self.assertIsInstance(Book.rules, property)

    def test_made_paths_in_the_way_of_one_ahead(self):
        for one, other in (("a", "a"), ("a", "a/b"), ("a", "a/b/c"), ("a/b", "a"), ("a/b/c", "a"), ("a/b", "a/b/c")):
            with self.subTest(one + " " + other):
                rules = ((one, "size", "s"), ("z", "size", "s"), (other, "sort", "s"))
                self.assertEqual(fault(Book, rules), (BadRules, {"index": 2}))
                self.assertEqual(fault(Book, rules + (None,)), (BadRules, {"index": 2}))
                self.assertEqual(fault(Book, (None,) + rules), (BadRules, {"index": 0}))

    def test_made_paths_that_begin_alike(self):
        rules = tuple([(path, "size", "s") for path in ("a/b", "a0", "a/b0", "a/c/d", "a/bb", "ab", "b", "a/c/e")])
        self.assertEqual(made_paths(Book(rules)), ["a/b", "a/b0", "a/bb", "a/c/d", "a/c/e", "a0", "ab", "b"])

    def test_paths_that_are_not_made_may_lie_anywhere(self):
        rules = (("a", "join", ("a/b", "c", "c/d", "c/d/e")), ("b/c", "names", "b"), ("e", "size", "b"))
        self.assertEqual(Book(rules).rules, rules)

    def test_the_first_wrong_rule_is_told(self):
        self.assertEqual(fault(Book, (("a", "size", "b"), ("b", "size"), ("a", "size", "b"))), (BadRules, {"index": 1}))
        self.assertEqual(fault(Book, (("a", "size", "b"), ("a", "size", "b"), None)), (BadRules, {"index": 1}))

    def test_equality(self):
        self.assertTrue(Book(EIGHT) == Book(tuple(list(EIGHT))))
        self.assertFalse(Book(EIGHT) != Book(tuple(list(EIGHT))))
        self.assertTrue(Book(()) == Book(()))
        for rules in ((), EIGHT[:7], EIGHT[::-1], EIGHT[:7] + (("m7", "size", "b"),), EIGHT[:7] + (("m7", "sort", "a"),)):
            with self.subTest(rules):
                self.assertTrue(Book(EIGHT) != Book(rules))
                self.assertFalse(Book(EIGHT) == Book(rules))

    def test_equal_to_nothing_of_another_kind(self):
        for value in STRANGE + (EIGHT, list(EIGHT), (), ""):
            with self.subTest(value=value):
                self.assertFalse(Book(EIGHT) == value)
                self.assertTrue(Book(EIGHT) != value)
                self.assertFalse(Book(()) == value)
                self.assertFalse(value == Book(()))


class BooksTold(unittest.TestCase):
    def test_any_value_that_is_no_book(self):
        takers = (made_paths, told_ring, told_order, depths, lambda value: right_ring(value, None),
                  lambda value: right_order(value, ("a",)))
        for value in STRANGE + ((), "", EIGHT, [Book(EIGHT)], (Book(EIGHT),), {"book": Book(EIGHT)}):
            for number, taker in enumerate(takers):
                with self.subTest(number, value=value):
                    self.assertEqual(fault(taker, value), (BadBook, {}))


if __name__ == "__main__":
    unittest.main()
