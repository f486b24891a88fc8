"""Points 8 and 9: records of rules, whether they replay, and what of them is enough."""

import random
import unittest

from buildroom.books import Book
from buildroom.errors import BadBook, BadRecord, BadRule, BadTree
from buildroom.records import blunt_replays, blunted, first_changed, replays, right_record, told_by
from buildroom.running import run
from tests.chance import FILES, MADE, some_book, some_tree
from tests.helpers import STRANGE, fault
from tests.models import clean_model, run_model, see_model

LONG = "z" * 400


def t(path, text):
    return ("text", path, text)


def no(path):
    return ("missing", path)


def stop(path):
    return ("stopped", path)


JOIN, NONE, SIZE = ("m", "join", ("a", "b", "a")), ("m", "join", ()), ("m", "size", "a")
SORT, PICK, NEED = ("m", "sort", "a"), ("m", "pick", "a", "x"), ("m", "need", "a", "x")
TOP, NAMES, USE, CHOOSE = ("m", "names", ""), ("m", "names", "lib"), ("m", "use", "a"), ("m", "choose", "a", "b", "c")

# Records with the outcomes that they tell.
RIGHT = (
    (JOIN, (t("a", "x"), t("b", "y\n"), t("a", "x")), ("text", "xy\nx")),
    (JOIN, (no("a"),), no("a")), (JOIN, (t("a", ""), stop("b")), stop("b")),
         (JOIN, (t("a", ""), t("b", ""), no("a")), no("a")),
    (JOIN, (t("a", "x"), t("b", "y"), t("a", "z")), ("text", "xyz")),
    (JOIN, (t("a", ""), t("b", LONG), t("a", "")), ("text", LONG)),
         (JOIN, (t("a", ""), t("b", LONG), t("a", "x")), ("long",)),
    (NONE, (), ("text", "")),
    (SIZE, (t("a", LONG),), ("text", "400")), (SIZE, (t("a", ""),), ("text", "0")), (SIZE, (no("a"),), no("a")),
         (SIZE, (stop("a"),), stop("a")),
    (SORT, (t("a", "b\na\n"),), ("text", "\na\nb")), (SORT, (stop("a"),), stop("a")),
    (PICK, (t("a", "x\ny\nax"),), ("text", "x\nax")), (PICK, (t("a", "y"),), ("text", "")), (PICK, (no("a"),), no("a")),
    (NEED, (t("a", "ax"),), ("text", "ax")), (NEED, (t("a", "y"),), ("lacks",)), (NEED, (stop("a"),), stop("a")),
    (TOP, (("names", "", ()),), ("text", "")), (TOP, (("names", "", ("a", "b0", "c")),), ("text", "a\nb0\nc")),
    (NAMES, (("names", "lib", tuple([f"n{number:03}" for number in range(80)])),),
     ("text", "\n".join([f"n{number:03}" for number in range(80)]))),
    (NAMES, (("names", "lib", tuple([f"n{number:03}" for number in range(81)])),), ("long",)),
    (USE, (t("a", "x"),), ("text", "x")), (USE, (no("a"),), no("a")),
    (USE, (t("a", "use b\nx\nuse a/b\nuse b"), t("b", "B"), t("a/b", "y\nz"), t("b", "C")), ("text", "B\nx\ny\nz\nC")),
    (USE, (t("a", "use b\nx\nuse m"), t("b", ""), stop("m")), stop("m")),
         (USE, (t("a", "use b\nuse c"), no("b")), no("b")),
    (USE, (t("a", "use b\n" + "x" * 40), t("b", LONG)), ("long",)),
         (USE, (t("a", "use b"), t("b", LONG)), ("text", LONG)),
    (CHOOSE, (t("a", "yes"), t("b", "B")), ("text", "B")), (CHOOSE, (t("a", "no"), t("c", LONG)), ("text", LONG)),
    (CHOOSE, (t("a", "yes"), no("b")), no("b")), (CHOOSE, (t("a", "yes\n"), stop("c")), stop("c")),
         (CHOOSE, (stop("a"),), stop("a")),
    (("m", "size", "m"), (t("m", "x"),), ("text", "1")),
)
# Values that are no record of the rule.
WRONG = (
    (JOIN, ()), (JOIN, (t("a", "x"), t("b", "y"))), (JOIN, (t("a", "x"), t("b", "y"), t("a", "x"), t("a", "x"))),
    (JOIN, (t("b", "x"), t("a", "y"), t("a", "x"))), (JOIN, (no("a"), t("b", "y"), t("a", "x"))),
         (JOIN, (t("a", "x"), stop("b"), no("a"))),
    (JOIN, (t("a", "x"), t("b", "y"), t("b", "x"))), (JOIN, (no("b"),)),
         (JOIN, [t("a", "x"), t("b", "y"), t("a", "x")]),
    (NONE, (t("a", "x"),)), (NONE, (no("a"),)), (NONE, []), (NONE, None), (NONE, ""), (NONE, {}), (NONE, ((),)),
    (SIZE, ()), (SIZE, (t("b", "x"),)), (SIZE, (t("a", "x"), t("a", "x"))), (SIZE, (no("a"), no("a"))),
         (SIZE, (("names", "a", ()),)),
    (SIZE, (t("a", LONG + "z"),)), (SIZE, (t("a", "\t"),)), (SIZE, (t("a", "\x7f"),)), (SIZE, (t("a", "\xe9"),)),
         (SIZE, (t("a", None),)),
    (SIZE, (t("a", ("x",)),)), (SIZE, (t("a", 1),)), (SIZE, (("text", "a"),)), (SIZE, (("text", "a", "x", "y"),)),
         (SIZE, (("text",),)),
    (SIZE, (("missing", "a", "x"),)), (SIZE, (("missing",),)), (SIZE, (("stopped", "a", None),)), (SIZE, (("lacks",),)),
         (SIZE, (("ring",),)),
    (SIZE, (("Text", "a", "x"),)), (SIZE, (("size", "a", 1),)), (SIZE, ((),)), (SIZE, ("text",)),
         (SIZE, (["text", "a", "x"],)),
    (SIZE, t("a", "x")), (SIZE, ({"text": "a"},)), (SIZE, (None,)), (SIZE, ((["text"], "a", "x"),)),
         (SIZE, (("text", ["a"], "x"),)),
    (SIZE, (("long", "a"),)), (SIZE, (("", "a"),)), (SIZE, ((None, "a"),)), (SIZE, (("names", "a", ("x",)),)),
    (TOP, ()), (TOP, (("names", "lib", ()),)), (TOP, (("names", ""),)), (TOP, (("names", "", ["a"]),)),
         (TOP, (("names", "", None),)),
    (TOP, (("names", "", "abc"),)), (TOP, (("names", "", ("b", "a")),)), (TOP, (("names", "", ("a", "a")),)),
         (TOP, (("names", "", ("A",)),)),
    (TOP, (("names", "", ("a/b",)),)), (TOP, (("names", "", ("",)),)), (TOP, (("names", "", ("abcdefg",)),)),
         (TOP, (("names", "", (1,)),)),
    (TOP, (("names", "", ("a", None)),)), (TOP, (("names", "", ()), ("names", "", ()))),
         (TOP, (("names", "", (), ()),)), (TOP, (no(""),)),
    (TOP, (t("", "x"),)), (TOP, (("text", "", ("a",)),)), (TOP, (("missing", "", ()),)), (TOP, (stop(""),)),
         (NAMES, (("names", "", ()),)), (NAMES, (t("lib", "x"),)), (NAMES, (no("lib"),)),
    (USE, ()), (USE, (t("a", "use b"),)), (USE, (t("a", "use b"), t("c", "C"))),
         (USE, (t("a", "use b"), t("b", "B"), t("b", "B"))),
    (USE, (t("a", "use b\nuse c"), t("c", "C"), t("b", "B"))), (USE, (t("a", " use b"), t("b", "B"))),
         (USE, (t("a", "use b\nuse c"), no("b"), t("c", ""))),
    (USE, (t("a", "use b"), t("b", "use c"), t("c", "C"))), (USE, (t("a", "use b\nuse c"), t("b", "B"))),
    (CHOOSE, ()), (CHOOSE, (t("a", "yes"),)), (CHOOSE, (t("a", "yes"), t("c", "C"))),
         (CHOOSE, (t("a", "no"), t("b", "B"))),
    (CHOOSE, (t("a", "yes"), t("b", "B"), t("c", "C"))), (CHOOSE, (no("a"), t("c", "C"))), (CHOOSE, (t("b", "B"),)),
)
# Records, and what of them the rules can tell apart.
BLUNT = (
    (SIZE, (t("a", "ab\n"),), (("size", "a", 3),)), (SIZE, (t("a", ""),), (("size", "a", 0),)),
    (SORT, (t("a", "b\n\na\nb"),), (("lines", "a", ("", "a", "b", "b")),)),
         (SORT, (t("a", ""),), (("lines", "a", ("",)),)),
    (PICK, (t("a", "x2\ny\nx1\nx2"),), (("picked", "a", ("x2", "x1", "x2")),)),
         (PICK, (t("a", "y"),), (("picked", "a", ()),)),
    (NEED, (t("a", "y\nx"),), (("has", "a", "y\nx"),)), (NEED, (t("a", "y"),), (("has", "a", None),)),
    (CHOOSE, (t("a", "yes"), t("b", "yes")), (("yes", "a", True), t("b", "yes"))),
    (CHOOSE, (t("a", "yes\n"), t("c", "")), (("yes", "a", False), t("c", ""))),
         (CHOOSE, (t("a", ""), no("c")), (("yes", "a", False), no("c"))),
    (CHOOSE, (no("a"),), (no("a"),)), (CHOOSE, (t("a", "yes"), stop("b")), (("yes", "a", True), stop("b"))),
)


class Records(unittest.TestCase):
    def test_right_records_and_their_outcomes(self):
        for rule, record, outcome in RIGHT:
            with self.subTest(rule=rule, record=record):
                self.assertIs(right_record(rule, record), True)
                self.assertEqual(told_by(rule, record), outcome)

    def test_values_that_are_no_records(self):
        book = Book(())
        for rule, value in WRONG + tuple([(rule, value) for rule in (SIZE, TOP, USE, JOIN) for value in STRANGE]):
            with self.subTest(rule=rule, value=value):
                self.assertIs(right_record(rule, value), False)
                self.assertEqual(fault(told_by, rule, value), (BadRecord, {}))
                self.assertEqual(fault(blunted, rule, value), (BadRecord, {}))
                for call in (first_changed, replays, blunt_replays):
                    self.assertEqual(fault(call, book, (), rule, value), (BadRecord, {}))

    def test_strange_things_within_records(self):
        for value in STRANGE + ("",):
            for record in ((value,), (("text", value, "x"),), ((value, "a", "x"),), ((value, "a"),),
                           (("missing", value),), (("stopped", value),)):
                self.assertIs(right_record(SIZE, record), False)
            if value not in ("", "A", "not a path"):
                self.assertIs(right_record(SIZE, (t("a", value),)), False)
            self.assertIs(right_record(TOP, (("names", "", value),)), False)
            self.assertIs(right_record(TOP, (("names", "", (value,)),)), False)
            self.assertIs(right_record(CHOOSE, (t("a", "yes"), value)), False)

    def test_records_of_other_rules(self):
        for one, other, record in ((SIZE, TOP, (t("a", "x"),)), (TOP, SIZE, (("names", "", ()),)),
                                   (USE, SIZE, (t("a", "use b"), t("b", ""))),
                                   (JOIN, CHOOSE, (t("a", ""), t("b", ""), t("a", ""))),
                                   (NAMES, TOP, (("names", "lib", ()),)),
                                   (CHOOSE, JOIN, (t("a", "yes"), t("b", ""))), (SIZE, ("m", "size", "b"), (no("a"),)),
                                   (NONE, SIZE, ())):
            self.assertIs(right_record(one, record), True)
            self.assertIs(right_record(other, record), False)

    def test_each_run_has_a_record_that_tells_its_outcome(self):
        dice = random.Random(8)
        for _ in range(300):
            book, tree = some_book(dice), some_tree(dice)
            for rule in book.rules:
                outcome, record = run(book, tree, rule[0])
                with self.subTest(rule=rule, record=record):
                    self.assertIs(right_record(rule, record), record is not None)
                    if record is not None:
                        self.assertEqual(told_by(rule, record), outcome)
                        self.assertIs(right_record(rule, record + (no("s"),)), False)
                        self.assertIs(right_record(rule, record[:-1]), record == ())
                        self.assertIs(replays(book, tree, rule, record), True)
                        self.assertIsNone(first_changed(book, tree, rule, record))
                        self.assertIs(blunt_replays(book, tree, rule, record), True)


class Changed(unittest.TestCase):
    def test_the_first_look_that_sees_another_thing(self):
        book = Book((("b", "size", "t"), ("c", "need", "t", "x")))
        rule = ("m", "join", ("a", "b", "c"))
        record = (t("a", "x"), t("b", "2"), stop("c"))
        right = (("a", "x"), ("t", "zz"))
        self.assertIsNone(first_changed(book, right, rule, record))
        for tree, at in (((("a", "y"), ("t", "zz")), 0), ((("t", "zz"),), 0), ((("a", "x"), ("t", "zzz")), 1),
                         ((("a", "x"),), 1),
                         ((("a", "x"), ("t", "xz")), 2), ((("a", "y"), ("t", "x")), 0), ((("a", "x"), ("t", "x")), 1)):
            with self.subTest(tree):
                self.assertEqual(first_changed(book, tree, rule, record), at)
                self.assertIs(replays(book, tree, rule, record), False)

    def test_missing_and_stopped_are_apart(self):
        lacks = Book((("a", "size", "no"),))
        self.assertIs(replays(Book(()), (), SIZE, (no("a"),)), True)
        self.assertIs(replays(Book(()), (), SIZE, (stop("a"),)), False)
        self.assertIs(replays(lacks, (), SIZE, (stop("a"),)), True)
        self.assertIs(replays(lacks, (), SIZE, (no("a"),)), False)
        self.assertEqual(first_changed(Book(()), (("a", ""),), SIZE, (no("a"),)), 0)

    def test_a_file_at_a_made_path_is_not_seen(self):
        self.assertIs(replays(Book((("a", "size", "b"),)), (("a", "x"), ("b", "bb")), SIZE, (t("a", "x"),)), False)
        self.assertIs(replays(Book((("a", "size", "b"),)), (("a", "x"), ("b", "bb")), SIZE, (t("a", "2"),)), True)

    def test_names(self):
        record = (("names", "", ("a", "lib")),)
        self.assertIs(replays(Book(()), (("a", ""), ("lib/x", "")), TOP, record), True)
        self.assertEqual(first_changed(Book(()), (("a", ""), ("b", ""), ("lib/x", "")), TOP, record), 0)
        self.assertEqual(first_changed(Book(()), (), TOP, record), 0)

    def test_a_made_path_of_a_ring_never_sees_the_same(self):
        book = Book((("a", "size", "b"), ("b", "size", "a"), ("w", "size", "a")))
        for rule in (SIZE, ("m", "size", "w"), ("w", "size", "a"), ("a", "size", "b")):
            for look in (t(rule[2], "x"), no(rule[2]), stop(rule[2])):
                self.assertEqual(first_changed(book, (), rule, (look,)), 0)
                self.assertIs(replays(book, (), rule, (look,)), False)
                self.assertIs(blunt_replays(book, (), rule, (look,)), False)

    def test_rules_that_are_in_no_book(self):
        book, record = Book((("m", "sort", "a"),)), (t("a", "x"),)
        for rule in (SIZE, ("other", "size", "a"), ("a/b", "size", "a"), SORT):
            self.assertIs(replays(book, (("a", "x"),), rule, record), True)
            self.assertIs(replays(book, (("a", "y"),), rule, record), False)

    def test_the_empty_record(self):
        self.assertIsNone(first_changed(Book(()), (), NONE, ()))
        self.assertIs(replays(Book(()), (), NONE, ()), True)
        self.assertEqual(blunted(NONE, ()), ())
        self.assertIs(blunt_replays(Book(()), (), NONE, ()), True)

    def test_a_path_that_is_looked_at_twice(self):
        record = (t("a", "x"), t("b", ""), t("a", "y"))
        self.assertEqual(first_changed(Book(()), (("a", "x"), ("b", "")), JOIN, record), 2)
        self.assertEqual(first_changed(Book(()), (("a", "y"), ("b", "")), JOIN, record), 0)

    def test_against_the_model(self):
        dice = random.Random(9)
        same = other = 0
        for _ in range(400):
            book, ahead, tree = some_book(dice), some_tree(dice), some_tree(dice)
            model, now = clean_model(book, ahead), clean_model(book, tree)
            for rule in book.rules:
                if model[rule[0]]:
                    record = model[rule[0]][1]
                    changed = [at for at, look in enumerate(record) if self.seen(now, tree, look) != look]
                    self.assertEqual(first_changed(book, tree, rule, record), changed[0] if changed else None)
                    self.assertIs(replays(book, tree, rule, record), not changed)
                    if not changed:
                        self.assertEqual(now[rule[0]], model[rule[0]])
                    same, other = same + (not changed), other + bool(changed)
        self.assertGreater(min(same, other), 100)

    def seen(self, now, tree, look):
        """What is seen now at the place of a look."""
        texts = {made: told[0][1] for made, told in now.items() if told and told[0][0] == "text"}
        word, where = "names" if look[0] == "names" else "path", look[1]
        return None if word == "path" and where in now and not now[where] else see_model(word, where, now, dict(tree),
            texts)


class Blunted(unittest.TestCase):
    def test_what_rules_can_tell_apart(self):
        for rule, record, blunt in BLUNT:
            with self.subTest(rule=rule, record=record):
                self.assertEqual(blunted(rule, record), blunt)
                self.assertEqual([[type(thing) for thing in look] for look in blunted(rule, record)],
                                 [[type(thing) for thing in look] for look in blunt])

    def test_looks_that_stay(self):
        for rule, record, _ in RIGHT:
            if rule[1] in ("join", "use", "names") or record[-1][0] != "text" and len(record) == 1:
                self.assertEqual(blunted(rule, record), record)

    def test_blunt_replays(self):
        for rule, ahead, same, others in (
                (SIZE, "abc", ("abc", "x\ny"), ("ab", "abcd", "", None)),
                (SORT, "b\na\na", ("b\na\na", "a\nb\na"), ("b\na", "a\nb\nb", "", None)),
                (PICK, "x\ny\nax", ("x\ny\nax", "x\nax", "z\nx\nax\nz"), ("ax\nx", "x", "x\nax\nx", "", None)),
                (NEED, "ax", ("ax",), ("xa", "ax\n", "", "b", None)),
                (NEED, "b", ("b", "", "c\nd"), ("x", "bx", None)),
                (USE, "u", ("u",), ("", "v", None)), (("m", "join", ("a",)), "u", ("u",), ("", "uu", None))):
            for now in same + others:
                with self.subTest(rule=rule, ahead=ahead, now=now):
                    tree = () if now is None else (("a", now),)
                    self.assertIs(blunt_replays(Book(()), tree, rule, (t("a", ahead),)), now in same)
                    self.assertIs(replays(Book(()), tree, rule, (t("a", ahead),)), now == ahead)

    def test_blunt_replays_of_choose(self):
        for first, record, now, right in (
                ("no", (t("a", "no"), t("c", "C")), (("a", "other"), ("c", "C")), True),
                                          ("no", (t("a", "no"), t("c", "C")), (("a", ""), ("c", "c")), False),
                ("no", (t("a", "no"), t("c", "C")), (("a", "yes"), ("c", "C")), False),
                                          ("yes", (t("a", "yes"), t("b", "yes")), (("a", "yes"), ("b", "yes")), True),
                ("yes", (t("a", "yes"), t("b", "no")), (("a", "yes"), ("b", "na")), False),
                                          ("yes", (t("a", "yes"), no("b")), (("a", "yes"), ("c", "C")), True),
                ("yes", (t("a", "yes"), no("b")), (("a", "yes"), ("b", "")), False)):
            with self.subTest(first, record=record, now=now):
                self.assertIs(blunt_replays(Book(()), now, CHOOSE, record), right)

    def test_looks_without_a_text(self):
        self.assertIs(blunt_replays(Book(()), (), SIZE, (no("a"),)), True)
        self.assertIs(blunt_replays(Book(()), (("a", ""),), SIZE, (no("a"),)), False)
        self.assertIs(blunt_replays(Book((("a", "size", "b"),)), (), SIZE, (stop("a"),)), True)
        self.assertIs(blunt_replays(Book((("a", "size", "b"),)), (), SIZE, (no("a"),)), False)

    def test_what_replays_replays_blunted_and_makes_the_same(self):
        dice = random.Random(10)
        blunt = 0
        for _ in range(500):
            book, ahead, tree = some_book(dice), some_tree(dice), some_tree(dice, FILES + MADE)
            for rule in book.rules:
                outcome, record = run(book, ahead, rule[0])
                if record is not None:
                    if replays(book, tree, rule, record):
                        self.assertIs(blunt_replays(book, tree, rule, record), True)
                    if blunt_replays(book, tree, rule, record):
                        self.assertEqual(run(book, tree, rule[0])[0], outcome)
                        blunt += not replays(book, tree, rule, record)
        self.assertGreater(blunt, 20)


class Wrong(unittest.TestCase):
    def test_which_error_comes_first(self):
        for call in (first_changed, replays, blunt_replays):
            self.assertEqual(fault(call, None, None, None, None), (BadBook, {}))
            self.assertEqual(fault(call, Book(()), (1,), None, None), (BadTree, {"index": 0}))
            self.assertEqual(fault(call, Book(()), (), None, None), (BadRule, {}))
            self.assertEqual(fault(call, Book(()), (), SIZE, None), (BadRecord, {}))
        for call in (told_by, blunted):
            self.assertEqual(fault(call, None, None), (BadRule, {}))
        self.assertEqual(fault(right_record, None, None), (BadRule, {}))

    def test_any_value_of_a_rule(self):
        for value in STRANGE + ((), "", ("m", "size"), ("m", "size", ""), ["m", "size", "a"], ("m", "size", "a", "a"),
                                Book((SIZE,))):
            with self.subTest(value=value):
                for call in (right_record, told_by, blunted):
                    self.assertEqual(fault(call, value, ()), (BadRule, {}))
                for call in (first_changed, replays, blunt_replays):
                    self.assertEqual(fault(call, Book(()), (), value, ()), (BadRule, {}))

    def test_any_value_of_a_book_and_of_a_tree(self):
        for value in STRANGE + ((SIZE,), "", [Book(())]):
            for call in (first_changed, replays, blunt_replays):
                self.assertEqual(fault(call, value, (), SIZE, (no("a"),)), (BadBook, {}))
                index = 0 if isinstance(value, tuple) and value else None
                if value != ():
                    self.assertEqual(fault(call, Book(()), value, SIZE, (no("a"),)), (BadTree, {"index": index}))

    def test_the_model_and_the_program_agree_on_outcomes(self):
        for rule, record, outcome in RIGHT:
            seen = list(record)
            self.assertEqual(run_model(rule, lambda word, where: seen.pop(0)), (outcome, record))


if __name__ == "__main__":
    unittest.main()
