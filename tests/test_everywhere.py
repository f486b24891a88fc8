"""Point 1: what every function keeps to. Each call of CALLS is one that returns."""

import copy
import unittest

from buildroom.books import Book, depths, made_paths, right_order, right_ring, told_order, told_ring
from buildroom.errors import BadBook, BadPath, BadRules, BadTree, RoomError
from buildroom.paths import differing, names_in, put, taken, text_at
from tests.helpers import fault

TREE = (("a", "x"), ("lib/b", "y"))
OTHER = (("a", "z"), ("c", ""))
BOOK = Book((("out", "join", ("a", "mid")), ("mid", "sort", "a")))
RING = Book((("p", "size", "q"), ("q", "size", "p")))

CALLS = (
    (text_at, (TREE, "a")), (names_in, (TREE, "")), (put, (TREE, "c", "w")), (taken, (TREE, "a")),
    (differing, (TREE, OTHER)), (Book, (BOOK.rules,)), (made_paths, (BOOK,)), (told_ring, (RING,)),
    (right_ring, (RING, ["p", ["q"]])), (right_ring, (RING, {"p": ["q"]})), (told_order, (BOOK,)),
    (right_order, (BOOK, [["mid"], {"out": 1}])), (right_order, (BOOK, ("mid", ["out"]))), (depths, (BOOK,)),
)
FAILS = (
    (text_at, ([["a", "x"]], "a")), (names_in, (TREE, ["a"])), (put, (TREE, "c", {"w": ["w"]})), (taken, (TREE, ["a"])),
    (put, (TREE, "lib", "")), (taken, (TREE, "lib")), (differing, (TREE, [["a"]])), (Book, ([["m", "size", "a"]],)),
    (Book, ((("m", "join", ["a"]),),)), (made_paths, ([BOOK],)), (told_ring, ({"book": [BOOK]},)), (depths, ([[]],)),
)


class Everywhere(unittest.TestCase):
    def test_arguments_are_not_changed(self):
        for call, arguments in CALLS + FAILS:
            with self.subTest(call=call, arguments=arguments):
                before = copy.deepcopy(arguments)
                fault(call, *arguments)
                self.assertEqual(arguments, before)

    def test_equal_calls_give_equal_results(self):
        for call, arguments in CALLS + FAILS:
            with self.subTest(call=call, arguments=arguments):
                self.assertEqual(fault(call, *arguments), fault(call, *copy.deepcopy(arguments)))

    def test_these_calls_return_and_those_raise(self):
        for call, arguments in CALLS:
            self.assertEqual(fault(call, *arguments)[0], "returned")
        for call, arguments in FAILS:
            self.assertTrue(issubclass(fault(call, *arguments)[0], RoomError))

    def test_lists_are_new(self):
        for call, arguments in CALLS:
            first = call(*arguments)
            if isinstance(first, list):
                with self.subTest(call=call):
                    kept = list(first)
                    first.append("more")
                    first[0] = "other"
                    self.assertEqual(call(*arguments), kept)

    def test_later_changes_of_an_argument_have_no_effect(self):
        rules = [["m", "size", "a"]]
        book = Book(tuple([tuple(rule) for rule in rules]))
        rules[0][2] = "b"
        rules.append(["n", "size", "a"])
        self.assertEqual(book.rules, (("m", "size", "a"),))

    def test_true_and_false_stand_for_nothing(self):
        for value in (True, False):
            self.assertEqual(fault(text_at, TREE, value), (BadPath, {}))
            self.assertEqual(fault(text_at, value, "a"), (BadTree, {"index": None}))
            self.assertEqual(fault(text_at, (value,), "a"), (BadTree, {"index": 0}))
            self.assertEqual(fault(Book, value), (BadRules, {"index": None}))
            self.assertEqual(fault(Book, (value,)), (BadRules, {"index": 0}))
            self.assertEqual(fault(depths, value), (BadBook, {}))

    def test_answers_are_true_or_false_themselves(self):
        for call, book, value in ((right_ring, RING, ("p", "q")), (right_order, BOOK, ("mid", "out"))):
            self.assertIs(call(book, value), True)
            self.assertIs(call(book, value[:1]), False)
            self.assertIs(call(book, ()), False)
            self.assertIs(call(book, None), False)

    def test_the_error_of_the_first_argument_comes_first(self):
        self.assertEqual(fault(put, 1, 2, 3), (BadTree, {"index": None}))
        self.assertEqual(fault(put, TREE, 2, 3), (BadPath, {}))
        self.assertEqual(fault(differing, (2,), 3), (BadTree, {"index": 0}))
        self.assertEqual(fault(right_ring, None, None), (BadBook, {}))

    def test_a_call_that_raises_changes_nothing(self):
        book, before = Book(BOOK.rules), [made_paths(BOOK), told_order(BOOK), depths(BOOK)]
        for call, arguments in FAILS:
            fault(call, *arguments)
            self.assertEqual([made_paths(book), told_order(book), depths(book)], before)
            self.assertEqual(book, BOOK)

    def test_values_of_any_depth(self):
        deep = ()
        for _ in range(5000):
            deep = (deep,)
        self.assertEqual(fault(text_at, deep, "a"), (BadTree, {"index": 0}))
        self.assertEqual(fault(text_at, (), deep), (BadPath, {}))
        self.assertEqual(fault(Book, deep), (BadRules, {"index": 0}))
        self.assertEqual(fault(made_paths, deep), (BadBook, {}))
        self.assertIs(right_ring(RING, deep), False)
        self.assertIs(right_order(BOOK, deep), False)


if __name__ == "__main__":
    unittest.main()
