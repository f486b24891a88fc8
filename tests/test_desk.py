"""Point 36: desks, whose steps can be taken back and done again."""

import random
import unittest

from buildroom.books import Book
from buildroom.builders import Builder
from buildroom.desk import Desk
from buildroom.errors import BadAims, BadBooks, BadStep, BadTree, BadWay
from tests.chance import FILES, MADE, some_aims, some_book, some_step, some_tree
from tests.helpers import STRANGE, fault

WAYS = ("always", "moments", "records", "whole")
BUILD = ("build",)
CHAIN = (Book((("mid", "sort", "a"), ("out", "join", ("mid", "b")))),)
TREE = (("a", "y\nx"), ("b", "!"))
BUILT = (("mid", "x\ny"), ("out", "x\ny!"))


def shown(desk):
    """All that can be read off a desk."""
    return [desk.row, desk.texts, desk.files, desk.right(), len(desk)]


class Steps(unittest.TestCase):
    def test_a_new_desk(self):
        for way in WAYS:
            desk = Desk(CHAIN, TREE, ("out",), way)
            self.assertEqual(shown(desk), [(), (), TREE, False, 0])
            self.assertEqual([desk.undo(), desk.redo()], [False, False])
            self.assertEqual(shown(desk), [(), (), TREE, False, 0])

    def test_do_is_that_of_a_builder(self):
        for way in WAYS:
            desk, builder = Desk(CHAIN, TREE, ("out",), way), Builder(CHAIN, TREE, ("out",), way)
            for step in (BUILD, ("write", "b", "?"), BUILD, ("cut", 0), ("spoil", "mid", ""), BUILD, ("drop", "a"), BUILD):
                self.assertEqual(desk.do(step), builder.do(step))
                self.assertEqual([desk.texts, desk.files, desk.right()], [builder.lying, builder.tree, builder.right()])

    def test_would_does_nothing(self):
        for way in WAYS:
            desk = Desk(CHAIN, TREE, ("out",), way)
            for step in (BUILD, ("write", "a", ""), ("cut", 0), ("drop", "a"), ("spoil", "out", "")):
                before = shown(desk)
                self.assertEqual(desk.would(step), desk.would(step))
                self.assertEqual(shown(desk), before)
            self.assertEqual(desk.would(BUILD), desk.do(BUILD))

    def test_would_takes_nothing_away_that_can_be_done_again(self):
        desk = Desk(CHAIN, TREE, ("out",), "whole")
        desk.do(BUILD)
        self.assertEqual([desk.undo(), desk.would(("drop", "a")), desk.redo(), desk.texts], [True, (), True, BUILT])

    def test_steps_that_could_not_be_done_stand(self):
        desk = Desk(CHAIN, TREE, ("out",), "whole")
        row = (("drop", "c"), ("write", "a/b", ""), ("lose", "mid"), ("touch", "z"))
        for step in row:
            self.assertEqual(desk.do(step), ())
        self.assertEqual(shown(desk), [row, (), TREE, False, 4])
        self.assertEqual([desk.undo(), desk.row, desk.redo(), desk.row], [True, row[:3], True, row])

    def test_a_step_that_could_not_be_done_ends_what_can_be_done_again(self):
        desk = Desk(CHAIN, TREE, ("out",), "whole")
        desk.do(BUILD)
        self.assertEqual([desk.undo(), desk.do(("drop", "c")), desk.redo(), desk.texts], [True, (), False, ()])

    def test_a_step_of_another_kind_ends_it_too(self):
        desk = Desk(CHAIN, TREE, ("out",), "whole")
        for step in (BUILD, ("drop", "a"), ("drop", "b")):
            desk.do(step)
        self.assertEqual([desk.undo(), desk.undo(), desk.do(("touch", "a")), desk.redo()], [True, True, (), False])
        self.assertEqual([desk.row, desk.files, desk.undo(), desk.undo(), desk.undo()],
                         [(BUILD, ("touch", "a")), TREE, True, True, False])

    def test_a_wrong_step_changes_nothing(self):
        desk = Desk(CHAIN, TREE, ("out",), "whole")
        desk.do(BUILD)
        desk.do(("drop", "a"))
        desk.undo()
        wrong = STRANGE + ((), ("build", 0), ["build"], ("cut", 21), ("cut", True), ("swap", 1), ("write", "mid", ""),
                           ("write", "a", None), ("lose", "a"), ("drop", "out"), ("undo",), (["build"],), {"build": 1})
        for value in wrong:
            with self.subTest(value=value):
                for call in (desk.do, desk.would):
                    self.assertEqual(fault(call, value), (BadStep, {}))
                self.assertEqual(shown(desk), [(BUILD,), BUILT, TREE, True, 1])
        self.assertEqual([desk.redo(), desk.files], [True, TREE[1:]])


class TakenBack(unittest.TestCase):
    def test_what_lies_what_is_kept_and_moments(self):
        steps = (("write", "b", "?"), ("back", "a", "z"), ("touch", "a"), ("spoil", "mid", "m"), ("lose", "out"),
                 ("forget", "mid"), ("drop", "b"), ("cut", 0), ("cut", 1), BUILD)
        for way in WAYS:
            for step in steps:
                desk = Desk(CHAIN, TREE, ("out",), way)
                desk.do(BUILD)
                would = {more: desk.would(more) for more in steps}
                before = shown(desk)
                desk.do(step)
                desk.do(BUILD)
                behind = shown(desk)
                self.assertEqual([desk.undo(), desk.undo()], [True, True])
                self.assertEqual(shown(desk), before)
                self.assertEqual({more: desk.would(more) for more in steps}, would)
                self.assertEqual([desk.redo(), desk.redo(), desk.redo()], [True, True, False])
                self.assertEqual(shown(desk), behind)

    def test_a_moment_comes_back(self):
        desk = Desk(CHAIN, TREE, ("out",), "moments")
        for step in (BUILD, ("touch", "a")):
            desk.do(step)
        self.assertEqual([desk.would(BUILD), desk.undo(), desk.would(BUILD)], [("mid", "out"), True, ()])
        self.assertEqual([desk.redo(), desk.would(BUILD), desk.do(BUILD), desk.undo(), desk.do(BUILD)],
                         [True, ("mid", "out"), ("mid", "out"), True, ("mid", "out")])

    def test_the_number_of_the_book_comes_back(self):
        books = CHAIN + (Book((("out", "size", "a"),)),)
        desk = Desk(books, TREE, ("out",), "whole")
        for step in (BUILD, ("swap", 1)):
            desk.do(step)
        self.assertEqual([desk.right(), desk.would(BUILD), desk.undo(), desk.right(), desk.would(BUILD)],
                         [False, ("out",), True, True, ()])

    def test_hundreds_of_steps(self):
        desk = Desk(CHAIN, TREE, ("out",), "moments")
        for number in range(300):
            desk.do(("write", "a", str(number)))
            desk.do(BUILD)
        self.assertEqual([len(desk), desk.texts], [600, (("mid", "299"), ("out", "299!"))])
        for number in reversed(range(600)):
            self.assertTrue(desk.undo())
            self.assertEqual(len(desk), number)
        self.assertEqual([desk.undo(), desk.texts, desk.files], [False, (), TREE])

    def test_against_builders_that_do_the_row_that_stands(self):
        dice = random.Random(36)
        for number in range(80):
            books = tuple([some_book(dice) for _ in range(dice.randint(1, 3))])
            tree, aims, way = some_tree(dice, FILES + ("a",)), some_aims(dice, MADE), WAYS[number % 4]
            desk, row, back = Desk(books, tree, aims, way), [], []
            for _ in range(25):
                word = dice.choice(("do", "do", "do", "undo", "undo", "redo", "redo", "would"))
                step = some_step(dice, MADE, len(books))
                builder = Builder(books, tree, aims, way)
                for ahead in row:
                    builder.do(ahead)
                if word == "would":
                    self.assertEqual(desk.would(step), builder.do(step))
                elif word == "do":
                    self.assertEqual(desk.do(step), builder.do(step))
                    row, back = row + [step], []
                elif word == "undo":
                    self.assertIs(desk.undo(), row != [])
                    row, back = row[:-1], back + row[-1:]
                else:
                    self.assertIs(desk.redo(), back != [])
                    row, back = row + back[-1:], back[:-1]
                builder = Builder(books, tree, aims, way)
                for ahead in row:
                    builder.do(ahead)
                self.assertEqual(shown(desk), [tuple(row), builder.lying, builder.tree, builder.right(), len(row)])


class Copies(unittest.TestCase):
    def test_a_copy_stands_as_the_desk_and_is_independent(self):
        desk = Desk(CHAIN, TREE, ("out",), "whole")
        for step in (BUILD, ("drop", "a"), BUILD, ("write", "a", "z")):
            desk.do(step)
        desk.undo()
        copied = desk.copy()
        self.assertEqual(shown(copied), shown(desk))
        before = shown(desk)
        self.assertEqual([copied.redo(), copied.files], [True, (("a", "z"), ("b", "!"))])
        self.assertEqual([copied.do(BUILD), copied.redo()], [("mid", "out"), False])
        self.assertEqual(shown(desk), before)
        self.assertEqual([desk.undo(), desk.undo(), desk.undo(), desk.undo()], [True, True, True, False])
        self.assertEqual([len(copied), copied.texts], [5, (("mid", "z"), ("out", "z!"))])
        self.assertEqual([desk.redo() for _ in range(5)], [True] * 4 + [False])
        self.assertEqual([desk.files, copied.undo(), copied.row], [(("a", "z"), ("b", "!")), True, desk.row])

    def test_steps_behind_a_copy_do_not_meet(self):
        dice = random.Random(37)
        for number in range(40):
            desk = Desk((some_book(dice), some_book(dice)), some_tree(dice), some_aims(dice, MADE), WAYS[number % 4])
            for _ in range(6):
                desk.do(some_step(dice, MADE, 2))
            for _ in range(dice.randint(0, 3)):
                desk.undo()
            one, other, row = desk.copy(), desk.copy(), [some_step(dice, MADE, 2) for _ in range(5)]
            before = shown(desk)
            ran = [one.do(step) for step in row]
            self.assertEqual(shown(desk), before)
            self.assertEqual([desk.do(step) for step in row], ran)
            self.assertEqual([other.do(step) for step in row], ran)
            self.assertEqual([shown(one), shown(other)], [shown(desk)] * 2)

    def test_kinds(self):
        desk = Desk(CHAIN, TREE, ("out",), "whole")
        self.assertIsInstance(desk.copy(), Desk)
        self.assertIsNot(desk.copy(), desk)
        self.assertFalse(desk == desk.copy())
        for name in ("row", "texts", "files"):
            self.assertIsInstance(vars(Desk)[name], property)
        self.assertLessEqual({"do", "would", "undo", "redo", "right", "copy", "__len__"}, set(vars(Desk)))


class Wrong(unittest.TestCase):
    def test_each_argument(self):
        for value in STRANGE + ("", CHAIN[0], list(CHAIN), (), CHAIN * 4):
            index = 0 if isinstance(value, tuple) and 1 <= len(value) <= 3 else None
            self.assertEqual(fault(Desk, value, None, None, None), (BadBooks, {"index": index}))
        self.assertEqual(fault(Desk, CHAIN + (None,), None, None, None), (BadBooks, {"index": 1}))
        for value in STRANGE + ("", []):
            index = 0 if isinstance(value, tuple) else None
            self.assertEqual(fault(Desk, CHAIN, value, None, None), (BadTree, {"index": index}))
        for value in STRANGE + ("", ["out"], ("out", "mid"), ("a",), ("out", "out"), {"out": 1}):
            self.assertEqual(fault(Desk, CHAIN, TREE, value, None), (BadAims, {}))
        for value in STRANGE + ("", (), "Whole", ["whole"], ("whole",)):
            self.assertEqual(fault(Desk, CHAIN, TREE, (), value), (BadWay, {}))


if __name__ == "__main__":
    unittest.main()
