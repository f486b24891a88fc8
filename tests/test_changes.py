"""Points 26 to 30: what edits change, what paths touch, paths that are renamed, and what is needed."""

import itertools
import random
import unittest

from buildroom.books import Book, made_paths
from buildroom.builders import Builder
from buildroom.changes import (changed, edited_tree, fewest_edits, may_touch, moved, needed, same_moved, touched)
from buildroom.errors import (Absent, BadAims, BadBook, BadEdits, BadMade, BadPath, BadTree, BadWords, Clash, Full)
from buildroom.paths import put, taken
from buildroom.running import clean
from tests.chance import FILES, MADE, TEXTS, some_book, some_tree
from tests.helpers import STRANGE, fault
from tests.models import Ring, clean_model, run_model, see_model

BOOK = Book((("out", "join", ("a", "mid")), ("mid", "sort", "a")))
TREE = (("a", "x"), ("b/c", "y"))
FULL = tuple([(f"f{number:02}", "") for number in range(20)])
PATHS = FILES + ("u", "s/w", "n")


def some_edit(dice, paths=PATHS):
    path = dice.choice(paths)
    return dice.choice((("write", path, dice.choice(TEXTS)), ("drop", path)))


def edited_model(tree, edits):
    """The tree behind edits, by put and taken."""
    for edit in edits:
        try:
            tree = put(tree, *edit[1:]) if edit[0] == "write" else taken(tree, edit[1])
        except (Absent, Clash, Full):
            pass
    return tree


def seen_model(book, tree):
    """For each made path the places that its rule looked at, and behind these the one that it waits for in a ring."""
    rules, found = {rule[0]: rule for rule in book.rules}, clean_model(book, tree)
    texts = {made: told[0][1] for made, told in found.items() if told is not None and told[0][0] == "text"}
    places = {made: [] for made in rules}
    for made, rule in rules.items():
        def see(word, where):
            places[made].append((word, where))
            if word == "path" and where in rules and found[where] is None:
                raise Ring()
            return see_model(word, where, rules, dict(tree), texts)
        try:
            run_model(rule, see)
        except Ring:
            pass
    return places


def touched_model(book, tree, path):
    places, found = seen_model(book, tree), set()
    for _ in range(9):
        for made in places:
            for word, where in places[made]:
                if word == "path" and (where == path or where in found):
                    found.add(made)
                if word == "names" and (where == "" or path.startswith(where + "/")):
                    found.add(made)
    return sorted(found)


class Edits(unittest.TestCase):
    def test_each_edit(self):
        for edits, tree in (((), TREE), ((("write", "a", "z"),), (("a", "z"), TREE[1])),
                            ((("write", "b/a", ""),), (TREE[0], ("b/a", ""), TREE[1])),
                            ((("drop", "a"),), TREE[1:]), ((("drop", "a"), ("drop", "b/c")), ()),
                            ((("drop", "a"), ("write", "a/d", "")), (("a/d", ""), TREE[1])),
                            ((("write", "a", "1"), ("write", "a", "2")), (("a", "2"), TREE[1]))):
            self.assertEqual(edited_tree(BOOK, TREE, edits), tree)

    def test_edits_that_cannot_be_done(self):
        for edit in (("write", "b", "x"), ("write", "a/b", "x"), ("write", "b/c/d", "x"), ("drop", "b"), ("drop", "c"),
                     ("drop", "b/c/d")):
            self.assertEqual(edited_tree(BOOK, TREE, (edit, ("write", "z", ""))), TREE + (("z", ""),))
            self.assertEqual(changed(BOOK, TREE, (edit,)), [])
        self.assertEqual(edited_tree(BOOK, FULL, (("write", "g", ""), ("write", "f00", "x"))), (("f00", "x"),) + FULL[1:])
        self.assertEqual(edited_tree(BOOK, FULL, (("drop", "f19"), ("write", "g", ""))), FULL[:19] + (("g", ""),))

    def test_eight_edits(self):
        edits = tuple([("write", f"n{number}", str(number)) for number in range(8)])
        self.assertEqual(edited_tree(BOOK, (), edits), tuple([edit[1:] for edit in edits]))
        self.assertEqual(fault(edited_tree, BOOK, (), edits + edits[:1]), (BadEdits, {"index": None}))

    def test_changed(self):
        for edits, made in ((("write", "a", "z"), ["mid", "out"]), (("write", "a", "x"), []), (("drop", "a"), ["mid", "out"]),
                            (("write", "b/c", "?"), []), (("write", "a", "y\nx"), ["mid", "out"])):
            self.assertEqual(changed(BOOK, TREE, (edits,)), made)
        book = Book((("m", "sort", "a"), ("n", "size", "a"), ("o", "size", "no"), ("p", "need", "a", "x"), ("q", "sort", "q")))
        self.assertEqual(changed(book, (("a", "x\ny"),), (("write", "a", "y\nx"),)), ["p"])
        self.assertEqual(changed(book, (("a", "x\ny"),), (("write", "a", "y\ny"),)), ["m", "p"])
        self.assertEqual(changed(book, (), (("write", "no", ""),)), ["o"])
        self.assertEqual(changed(book, (("a", "x"),), (("drop", "a"),)), ["m", "n", "p"])

    def test_outcomes_other_than_texts(self):
        book = Book((("m", "join", ("a", "b")), ("n", "size", "m"), ("o", "choose", "a", "o", "b")))
        self.assertEqual(changed(book, (), (("write", "a", ""),)), ["m", "o"])
        self.assertEqual(changed(book, (("a", ""),), (("write", "a", "yes"),)), ["o"])
        self.assertEqual(changed(book, (("a", ""),), (("write", "b", ""),)), ["m", "n", "o"])

    def test_against_the_model(self):
        dice = random.Random(26)
        changes = 0
        for _ in range(200):
            book, tree = some_book(dice), some_tree(dice)
            edits = tuple([some_edit(dice) for _ in range(dice.randint(0, 4))])
            then = edited_model(tree, edits)
            self.assertEqual(edited_tree(book, tree, edits), then)
            now, behind = [{made: told and told[0] for made, told in clean_model(book, one).items()} for one in (tree, then)]
            self.assertEqual(changed(book, tree, edits), [made for made in now if now[made] != behind[made]])
            changes += now != behind
        self.assertGreater(changes, 50)


class Touched(unittest.TestCase):
    def test_by_looks(self):
        book = Book((("m", "choose", "s", "t", "u"), ("n", "size", "m"), ("o", "join", ("no", "s")), ("p", "names", "d"),
                     ("q", "names", ""), ("r", "names", "d/e")))
        tree = (("s", "yes"), ("t", "T"), ("u", "U"))
        for path, made in (("s", ["m", "n", "q"]), ("t", ["m", "n", "q"]), ("u", ["q"]), ("no", ["o", "q"]), ("d", ["q"]),
                           ("d/x", ["p", "q"]), ("d/e", ["p", "q"]), ("d/e/f", ["p", "q", "r"]), ("d0/e", ["q"])):
            self.assertEqual(touched(book, tree, path), made)

    def test_by_stopped_looks(self):
        book = Book((("m", "size", "s"), ("n", "join", ("m", "t"))))
        self.assertEqual([touched(book, (("t", ""),), "s"), touched(book, (("t", ""),), "t")], [["m", "n"], []])
        self.assertEqual(touched(book, (("s", ""), ("t", "")), "t"), ["n"])

    def test_in_a_ring(self):
        # p looked at s and waits for q; q waits for p at once; w waits for q; x looks at neither.
        book = Book((("p", "join", ("s", "q", "t")), ("q", "join", ("p", "u")), ("w", "join", ("v", "q", "x")),
                     ("x", "size", "y")))
        tree = (("s", ""), ("t", ""), ("u", ""), ("v", ""), ("y", ""))
        for path, made in (("s", ["p", "q", "w"]), ("t", []), ("u", []), ("v", ["w"]), ("y", ["x"])):
            self.assertEqual(touched(book, tree, path), made)
        self.assertEqual(touched(Book((("m", "use", "m"),)), (), "s"), [])

    def test_a_folder_that_is_a_made_path_is_none(self):
        book = Book((("d", "size", "s"), ("m", "names", "d")))
        self.assertEqual([touched(book, (("s", ""),), "s"), may_touch(book, "s")], [["d"], ["d"]])

    def test_against_the_model(self):
        dice = random.Random(27)
        for _ in range(200):
            book, tree = some_book(dice), some_tree(dice)
            for path in PATHS:
                with self.subTest(book.rules, tree=tree, path=path):
                    found = touched(book, tree, path)
                    self.assertEqual(found, touched_model(book, tree, path))
                    self.assertLessEqual(set(found), set(may_touch(book, path)))
                    for _ in range(3):
                        edits = (some_edit(dice, (path,)),)
                        self.assertLessEqual(set(changed(book, tree, edits)), set(found))


class MayTouch(unittest.TestCase):
    def test_by_the_rules_alone(self):
        book = Book((("m", "choose", "s", "t", "u"), ("n", "size", "m"), ("o", "join", ("no", "s")), ("p", "names", "d"),
                     ("q", "pick", "t", "s"), ("r", "need", "q", "u"), ("v", "use", "z")))
        for path, made in (("s", ["m", "n", "o", "v"]), ("t", ["m", "n", "q", "r", "v"]), ("u", ["m", "n", "v"]),
                           ("d/x", ["p", "v"]), ("d", ["v"]), ("x", ["v"]), ("z", ["v"])):
            self.assertEqual(may_touch(book, path), made)

    def test_the_top_and_those_behind_use(self):
        book = Book((("m", "names", ""), ("n", "use", "z"), ("o", "sort", "n"), ("p", "sort", "s")))
        self.assertEqual([may_touch(book, "q"), may_touch(book, "s")], [["m", "n", "o"], ["m", "n", "o", "p"]])

    def test_rings(self):
        book = Book((("p", "join", ("s", "q")), ("q", "size", "p"), ("r", "size", "r")))
        self.assertEqual([may_touch(book, "s"), may_touch(book, "t")], [["p", "q"], []])
        self.assertEqual(may_touch(Book(()), "s"), [])


class FewestEdits(unittest.TestCase):
    def test_none_are_needed(self):
        self.assertEqual(fewest_edits(BOOK, TREE, (("write", "a", "z"), ("write", "a", "x")), "out", "xx"), [()])
        self.assertEqual(fewest_edits(BOOK, TREE, (), "out", "xx"), [()])

    def test_none_make_it(self):
        self.assertEqual(fewest_edits(BOOK, TREE, (("write", "a", "z"), ("drop", "a")), "out", "yy"), [])
        self.assertEqual(fewest_edits(BOOK, TREE, (), "out", ""), [])

    def test_all_of_the_fewest_in_their_order(self):
        edits = (("write", "a", "z"), ("write", "b/c", "z"), ("write", "a", "z"), ("drop", "a"))
        self.assertEqual(fewest_edits(BOOK, TREE, edits, "out", "zz"), [(0,), (2,)])
        book = Book((("m", "join", ("a", "b")),))
        edits = (("write", "b", "2"), ("write", "a", "1"), ("write", "b", "3"), ("write", "b", "2"), ("write", "a", "2"))
        self.assertEqual(fewest_edits(book, (), edits, "m", "12"), [(0, 1), (1, 3)])
        self.assertEqual(fewest_edits(book, (), edits, "m", "13"), [(1, 2)])

    def test_an_edit_that_is_done_only_behind_another_one(self):
        book = Book((("m", "size", "a/b"),))
        edits = (("write", "a/b", "123"), ("drop", "a"), ("write", "a/b", "123"))
        self.assertEqual(fewest_edits(book, (("a", ""),), edits, "m", "3"), [(1, 2)])

    def test_outcomes_that_are_no_texts_are_none(self):
        book = Book((("m", "size", "no"), ("n", "need", "a", "q"), ("o", "size", "o")))
        for made in ("m", "n", "o"):
            for text in ("missing", "no", "lacks", "ring", ""):
                self.assertEqual(fewest_edits(book, TREE, (("drop", "a"),), made, text), [])

    def test_texts_to_four_hundred_signs(self):
        book = Book((("m", "join", ("a", "a")),))
        self.assertEqual(fewest_edits(book, TREE, (("write", "a", "z" * 200),), "m", "z" * 400), [(0,)])

    def test_against_all_sets_of_edits(self):
        dice = random.Random(28)
        sizes = {}
        for _ in range(250):
            book, tree = some_book(dice, MADE[:3]), some_tree(dice)
            edits = tuple([some_edit(dice, FILES) for _ in range(dice.randint(1, 4))])
            rows = [row for many in range(len(edits) + 1) for row in itertools.combinations(range(len(edits)), many)]
            made = dice.choice(made_paths(book))
            outcomes = {row: dict(clean(book, edited_model(tree, [edits[number] for number in row])))[made] for row in rows}
            for text in {outcome[1] for outcome in outcomes.values() if outcome[0] == "text"} | {"", "x"}:
                right = [row for row in rows if outcomes[row] == ("text", text)]
                right = [row for row in right if len(row) == len(right[0])]
                self.assertEqual(fewest_edits(book, tree, edits, made, text), right)
                sizes[len(right[0]) if right else None] = True
        self.assertGreaterEqual(set(sizes), {None, 0, 1, 2})


class Moved(unittest.TestCase):
    def test_everywhere_a_path_stands(self):
        rules = (("old", "join", ("old", "a", "old")), ("b", "choose", "old", "a", "old"), ("c", "names", "old"),
                 ("d", "pick", "old", "old"), ("e", "need", "a", "old"), ("f", "use", "old"), ("g", "size", "old"),
                 ("h", "sort", "old/x"))
        then = (("z/y", "join", ("z/y", "a", "z/y")), ("b", "choose", "z/y", "a", "z/y"), ("c", "names", "old"),
                ("d", "pick", "z/y", "old"), ("e", "need", "a", "old"), ("f", "use", "z/y"), ("g", "size", "z/y"),
                ("h", "sort", "old/x"))
        tree = (("a", "use old"), ("old", "old"))
        self.assertEqual(moved(Book(rules), tree, "old", "z/y"), (Book(then), (("a", "use old"), ("z/y", "old"))))

    def test_trees_ascend_and_rules_stay_in_their_order(self):
        self.assertEqual(moved(BOOK, TREE, "b/c", "0"), (BOOK, (("0", "y"), ("a", "x"))))
        book, tree = moved(BOOK, TREE, "out", "a0")
        self.assertEqual([book.rules, tree], [(("a0", "join", ("a", "mid")), ("mid", "sort", "a")), TREE])
        book, tree = moved(BOOK, TREE, "a", "z")
        self.assertEqual([book.rules, tree], [(("out", "join", ("z", "mid")), ("mid", "sort", "z")),
                                              (("b/c", "y"), ("z", "x"))])

    def test_to_where_the_old_one_was_in_the_way(self):
        self.assertEqual(moved(BOOK, TREE, "b/c", "b")[1], (("a", "x"), ("b", "y")))
        self.assertEqual(moved(BOOK, TREE, "a", "a/b/c")[1], (("a/b/c", "x"), ("b/c", "y")))
        self.assertEqual(moved(BOOK, TREE, "out", "out/x")[0].rules[0][0], "out/x")

    def test_to_itself(self):
        for path in ("a", "b/c", "out", "mid"):
            self.assertEqual(moved(BOOK, TREE, path, path), (BOOK, TREE))
            self.assertIs(same_moved(BOOK, TREE, path, path), True)

    def test_absent(self):
        for old in ("c", "b", "b/c/d", "a/b"):
            for new in ("c", "a", "mid", "zz"):
                self.assertEqual(fault(moved, BOOK, TREE, old, new), (Absent, {}))
                self.assertEqual(fault(same_moved, BOOK, TREE, old, new), (Absent, {}))
        # A path that is told alone is absent, too.
        self.assertEqual(fault(moved, BOOK, (), "a", "c"), (Absent, {}))

    def test_clash(self):
        for old, new in (("a", "b/c"), ("a", "b"), ("a", "b/c/d"), ("a", "mid"), ("a", "mid/x"), ("out", "mid"),
                         ("out", "a"), ("out", "a/x"), ("out", "b"), ("b/c", "a"), ("b/c", "out/x/y"), ("mid", "out")):
            self.assertEqual(fault(moved, BOOK, TREE, old, new), (Clash, {}), (old, new))
            self.assertEqual(fault(same_moved, BOOK, TREE, old, new), (Clash, {}))

    def test_clash_with_what_is_told(self):
        self.assertEqual(fault(moved, BOOK, TREE[1:], "b/c", "a"), (Clash, {}))
        self.assertEqual(fault(moved, BOOK, TREE[1:], "out", "a"), (Clash, {}))
        for kind in (("size", "no"), ("join", ("a", "no")), ("choose", "a", "a", "no"), ("use", "no"), ("need", "no", "x")):
            book = Book((("m", "size", "a"), ("n", *kind)))
            self.assertEqual(fault(moved, book, TREE, "m", "no"), (Clash, {}))
            self.assertEqual(fault(moved, book, TREE, "b/c", "no"), (Clash, {}))
        # But what lies within a told path, or a folder of names, is not told.
        self.assertEqual(moved(BOOK, TREE[1:], "b/c", "a/x")[1], (("a/x", "y"),))
        book = Book((("m", "names", "d"), ("n", "pick", "s", "w")))
        self.assertEqual(moved(book, (("s", ""),), "s", "d")[1], (("d", ""),))
        self.assertEqual(moved(book, (("s", ""),), "s", "w")[1], (("w", ""),))

    def test_clash_even_if_the_new_one_is_the_old_one(self):
        book = Book((("a/b", "size", "s"), ("c", "size", "s")))
        tree = (("a", ""), ("c/d", ""))
        for path in ("a", "a/b", "c", "c/d"):
            self.assertEqual(fault(moved, book, tree, path, path), (Clash, {}))
        self.assertEqual(moved(book, tree, "a", "x")[1], (("c/d", ""), ("x", "")))

    def test_a_file_at_a_made_path(self):
        book, tree = moved(BOOK, (("a", "x"), ("mid", "file")), "mid", "new")
        self.assertEqual([book.rules, tree], [(("out", "join", ("a", "new")), ("new", "sort", "a")),
                                              (("a", "x"), ("new", "file"))])


class SameMoved(unittest.TestCase):
    def test_names(self):
        book = Book((("m", "names", ""), ("n", "names", "d")))
        self.assertIs(same_moved(book, (("a", ""),), "a", "b"), False)
        self.assertIs(same_moved(book, (("d/a", ""), ("d/b", "")), "d/a", "d/c"), False)
        self.assertIs(same_moved(book, (("d/a/x", ""), ("d/b", "")), "d/a/x", "d/a/y"), True)
        self.assertIs(same_moved(Book(book.rules[1:]), (("a", ""),), "a", "b"), True)
        self.assertIs(same_moved(book, (("a", ""),), "m", "b"), True)

    def test_use(self):
        book = Book((("m", "use", "a"), ("n", "size", "s")))
        for text, old, same in (("use s", "s", False), ("use s", "n", True), ("use n", "n", False), ("use s", "a", True),
                                ("x", "s", True)):
            self.assertIs(same_moved(book, (("a", text), ("s", "12")), old, "new"), same)

    def test_outcomes_that_name_the_path(self):
        book = Book((("m", "size", "no"), ("n", "size", "m"), ("o", "join", ("m",)), ("p", "size", "q"), ("q", "size", "p"),
                     ("r", "need", "s", "x"), ("t", "join", ("s",))))
        tree = (("s", "m"),)
        for old in ("m", "n", "o", "p", "q", "r", "s", "t"):
            self.assertIs(same_moved(book, tree, old, "new"), True)

    def test_a_text_that_is_the_path_stays(self):
        book = Book((("m", "join", ("s",)), ("n", "names", "")))
        self.assertIs(same_moved(Book(book.rules[:1]), (("s", "s"),), "s", "new"), True)
        self.assertIs(same_moved(Book(book.rules[1:]), (("s", "s"),), "s", "new"), False)

    def test_a_use_that_comes_to_the_new_path(self):
        book = Book((("m", "use", "a"),))
        self.assertIs(same_moved(book, (("a", "use new"), ("s", "")), "s", "new"), False)
        self.assertIs(same_moved(book, (("a", "use other"), ("s", "")), "s", "new"), True)

    def test_against_the_model(self):
        dice = random.Random(29)
        found = {}
        for _ in range(300):
            book, tree = some_book(dice), some_tree(dice)
            old, new = dice.choice(MADE + FILES), dice.choice(("new", "u/w", "d/f", "n/e/w"))
            call = fault(moved, book, tree, old, new)
            if call[0] != "returned":
                self.assertEqual(fault(same_moved, book, tree, old, new), call)
                continue
            now, then = clean_model(book, tree), clean_model(*call[1])
            same = True
            for made, told in now.items():
                outcome = None if told is None else told[0]
                if told is not None and outcome[0] != "text":
                    outcome = tuple([new if word == old else word for word in outcome])
                behind = then[new if made == old else made]
                same = same and outcome == (None if behind is None else behind[0])
            self.assertIs(same_moved(book, tree, old, new), same)
            found[same] = found.get(same, 0) + 1
            if not {"names", "use"} & {rule[1] for rule in book.rules}:
                self.assertTrue(same)
        self.assertGreater(min(found[True], found[False]), 20)


class Needed(unittest.TestCase):
    def test_by_looks(self):
        book = Book((("a", "choose", "s", "b", "c"), ("b", "size", "d"), ("c", "size", "s"), ("d", "size", "s"),
                     ("e", "join", ("no", "b"))))
        tree = (("s", "yes"),)
        for aims, made in (((), []), (("a",), ["a", "b", "d"]), (("c",), ["c"]), (("e",), ["e"]),
                           (("c", "b", "c"), ["b", "c", "d"]), (("e", "a"), ["a", "b", "d", "e"])):
            self.assertEqual(needed(book, tree, aims), made)
        self.assertEqual(needed(book, (("s", ""),), ("a",)), ["a", "c"])

    def test_rings(self):
        book = Book((("p", "join", ("x", "q", "y")), ("q", "join", ("p", "y")), ("w", "join", ("q", "y")),
                     ("x", "size", "s"), ("y", "size", "s"), ("z", "size", "z")))
        for aims, made in ((("p",), ["p", "q", "x"]), (("q",), ["p", "q", "x"]), (("w",), ["p", "q", "w", "x"]),
                           (("z",), ["z"]), (("y", "z"), ["y", "z"])):
            self.assertEqual(needed(book, (("s", ""),), aims), made)

    def test_they_are_what_builds_of_single_aims_run(self):
        dice = random.Random(30)
        for _ in range(200):
            book, tree = some_book(dice), some_tree(dice)
            aims = tuple([dice.choice(MADE) for _ in range(dice.randint(0, 4))])
            ran = [made for aim in aims for made in Builder((book,), tree, (aim,), "always").do(("build",))]
            self.assertEqual(needed(book, tree, aims), sorted(set(ran)))


class Wrong(unittest.TestCase):
    """Each call with its arguments behind the book, and behind the tree, all wrong or right."""

    calls = ((edited_tree, ((),)), (changed, ((),)), (touched, ("s",)), (fewest_edits, ((), "mid", "")),
             (moved, ("a", "s")), (same_moved, ("a", "s")), (needed, ((),)))

    def test_books_and_trees(self):
        for value in STRANGE + ("", (), BOOK.rules, [BOOK]):
            for call, more in self.calls:
                self.assertEqual(fault(call, value, None, *[None for _ in more]), (BadBook, {}))
            self.assertEqual(fault(may_touch, value, None), (BadBook, {}))
        for value in STRANGE + ("", [], TREE + (None,), FULL + FULL):
            index = None if not isinstance(value, tuple) or len(value) > 20 else min(2, len(value) - 1)
            for call, more in self.calls:
                self.assertEqual(fault(call, BOOK, value, *[None for _ in more]), (BadTree, {"index": index}))

    def test_edits(self):
        calls = (edited_tree, changed, lambda *told: fewest_edits(*told, None, None))
        for value in STRANGE + ("", [], [("drop", "a")], (("drop", "a"),) * 9, (None,) * 9, {0: 0}, ("drop", "a")):
            index = 0 if isinstance(value, tuple) and len(value) < 9 else None
            for call in calls:
                self.assertEqual(fault(call, BOOK, TREE, value), (BadEdits, {"index": index}))
        wrong = STRANGE + ((), "", ("write",), ("write", "a"), ("write", "a", "x", "y"), ("drop", "a", "x"), ("drop",),
                           ("write", "mid", "x"), ("drop", "out"), ("write", "", "x"), ("drop", ""), ("drop", "A"),
                           ("write", "a", "z" * 201), ("write", "a", None), ("write", "a", ["x"]), ["drop", "a"],
                           ("back", "a", "x"), ("touch", "a"), ("build",), ("spoil", "mid", "x"), ("lose", "mid"),
                           ("swap", 0), ("cut", 0), (["drop"], "a"), ("drop", ["a"]), ("drop", None), (None, "a"))
        for thing in wrong:
            with self.subTest(thing=thing):
                for call in calls:
                    self.assertEqual(fault(call, BOOK, TREE, (("drop", "a"), thing, None)), (BadEdits, {"index": 1}))
                    self.assertEqual(fault(call, BOOK, TREE, (("drop", "a"),) * 7 + (thing,)), (BadEdits, {"index": 7}))
        for edit in (("write", "mid/x", "z" * 200), ("drop", "n"), ("write", "a/b/c", "~\n ")):
            self.assertEqual(fault(changed, BOOK, TREE, (edit,))[0], "returned")

    def test_paths_that_may_be_made(self):
        for value in STRANGE + ("", (), "mid", "out", "a/b/c/d", "a/", ["a"], ("a",)):
            self.assertEqual(fault(touched, BOOK, TREE, value), (BadPath, {}))
            self.assertEqual(fault(may_touch, BOOK, value), (BadPath, {}))
        for value in ("a", "mid/x", "no", "b"):
            self.assertEqual(fault(touched, BOOK, TREE, value)[0], "returned")
            self.assertEqual(fault(may_touch, BOOK, value)[0], "returned")

    def test_made_paths_and_texts(self):
        for value in STRANGE + ("", (), "a", "mid/x", ["mid"], ("mid",), {"mid": 1}):
            self.assertEqual(fault(fewest_edits, BOOK, TREE, (), value, None), (BadMade, {}))
        for value in STRANGE + ((), "\t", "z" * 401, ["x"], ("x",), b"x", "\x7f"):
            if value not in ("A", "not a path"):
                self.assertEqual(fault(fewest_edits, BOOK, TREE, (), "mid", value), (BadWords, {}))
        for value in ("", "z" * 400, " ~\n"):
            self.assertEqual(fault(fewest_edits, BOOK, TREE, (), "mid", value), ("returned", []))

    def test_paths_that_are_renamed(self):
        for value in STRANGE + ("", (), "a/b/c/d", "/a", ["a"], ("a",)):
            for call in (moved, same_moved):
                self.assertEqual(fault(call, BOOK, TREE, value, None), (BadPath, {}))
                self.assertEqual(fault(call, BOOK, TREE, value, "new"), (BadPath, {}))
                self.assertEqual(fault(call, BOOK, TREE, "no", value), (BadPath, {}))
                self.assertEqual(fault(call, BOOK, TREE, "a", value), (BadPath, {}))
        self.assertEqual(fault(moved, BOOK, TREE, "no", "mid"), (Absent, {}))

    def test_aims(self):
        wrong = STRANGE + ("", "mid", ["mid"], ("a",), ("mid", "no"), ("mid", None), (["mid"],), (("mid",),), {"mid": 1})
        for value in wrong:
            self.assertEqual(fault(needed, BOOK, TREE, value), (BadAims, {}))
        for value in ((), ("out", "mid"), ("mid",) * 30):
            self.assertEqual(fault(needed, BOOK, TREE, value)[0], "returned")


if __name__ == "__main__":
    unittest.main()
