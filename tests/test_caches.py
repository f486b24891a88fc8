"""Points 15 to 17: entries, and stores of what was made."""

import random
import unittest

from buildroom.books import Book
from buildroom.caches import Store, true_entry
from buildroom.errors import BadAims, BadBook, BadEntries, BadKind, BadNumber, BadTree
from tests.chance import MADE, some_aims, some_book, some_tree
from tests.helpers import STRANGE, fault
from tests.models import StoreModel, clean_model

KINDS = ("eldest", "lately")
COPY = Book((("m", "sort", "s"),))


def entry(text, path="m"):
    """The entry of a rule that sorts s."""
    return ((path, "sort", "s"), (("text", "s", text),), text)


def tree(text):
    return (("s", text),)


def stores(room, *entries):
    return [(kind, Store(room, kind, entries)) for kind in KINDS]


class Entries(unittest.TestCase):
    def test_true_entries(self):
        a, b = ("text", "a", "yx\n"), ("text", "b", "")
        for value in ((("m", "size", "a"), (a,), "3"), (("m", "join", ("a", "b", "a")), (a, b, a), "yx\nyx\n"),
                      (("m", "join", ()), (), ""),
                      (("m", "names", "lib"), (("names", "lib", ("a", "b")),), "a\nb"),
                      (("m", "choose", "b", "c", "a"), (b, a), "yx\n"),
                      (("m", "need", "a", "x"), (a,), "yx\n"), (("m", "pick", "a", "z"), (a,), ""),
                      (("m", "use", "a"), (("text", "a", "use b"), b), ""),
                      (("m", "sort", "a"), (("text", "a", "z" * 400),), "z" * 400)):
            with self.subTest(value):
                self.assertIs(true_entry(value), True)
                self.assertEqual(Store(3, "lately", (value,)).far, (value,))
                for wrong in (value[:2], value + ("",), list(value), (value[0], value[1], value[2] + "x"),
                              (value[0], value[1], None),
                              (value[0], value[1], ("text", value[2])),
                              (value[0], value[1] + value[1] + (a,), value[2]), (value[0][:2], value[1], value[2]),
                              (value[0], list(value[1]), value[2]), (value[0], None, value[2]),
                              (value[2], value[1], value[0])):
                    self.assertIs(true_entry(wrong), False)

    def test_records_without_a_text(self):
        for rule, record in ((("m", "size", "a"), (("missing", "a"),)), (("m", "size", "a"), (("stopped", "a"),)),
                             (("m", "need", "a", "x"), (("text", "a", ""),)),
                             (("m", "join", ("a", "a")), (("text", "a", "z" * 201),) * 2)):
            for text in ("", "a", None, ("lacks",), ("long",), ("missing", "a"), "z" * 402):
                self.assertIs(true_entry((rule, record, text)), False)

    def test_any_value(self):
        for value in STRANGE + ((), "", "mst", (("m", "sort", "s"),)):
            self.assertIs(true_entry(value), False)
            self.assertIs(true_entry((value, (), "")), False)
            self.assertIs(true_entry((("m", "sort", "s"), value, "")), False)
            self.assertIs(true_entry((("m", "sort", "s"), (value,), "")), False)
            self.assertIs(true_entry(entry("x")[:2] + (value,)), False)

    def test_texts_that_are_not_true(self):
        self.assertIs(true_entry((("m", "sort", "s"), (("text", "s", "b\na"),), "b\na")), False)
        self.assertIs(true_entry((("m", "sort", "s"), (("text", "s", "b\na"),), "a\nb")), True)


class Stores(unittest.TestCase):
    def test_at_first(self):
        for kind, store in stores(2, entry("a"), entry("b")):
            self.assertEqual([store.near, store.far, len(store)], [(), (entry("a"), entry("b")), 2])
            for name in ("near", "far"):
                self.assertIsInstance(vars(Store)[name], property)
            self.assertLessEqual({"build", "forget", "copy", "__len__"}, set(vars(Store)))

    def test_a_run_is_laid_near_and_far(self):
        for kind, store in stores(2):
            self.assertEqual(store.build(COPY, tree("a"), ("m",)), (("a",), ("m",), (), ()))
            self.assertEqual([store.near, store.far, len(store)], [(entry("a"),), (entry("a"),), 1])

    def test_an_entry_is_found_near_then_far(self):
        for kind, store in stores(1, entry("a")):
            self.assertEqual(store.build(COPY, tree("a"), ("m",)), (("a",), (), (), ("m",)))
            self.assertEqual(store.build(COPY, tree("a"), ("m",)), (("a",), (), ("m",), ()))
            self.assertEqual(store.build(COPY, tree("b"), ("m",)), (("b",), ("m",), (), ()))
            self.assertEqual(store.build(COPY, tree("a"), ("m",)), (("a",), (), (), ("m",)))
            self.assertEqual([store.near, store.far], [(entry("a"),), (entry("a"), entry("b"))])

    def test_who_is_thrown_out(self):
        for kind, store in stores(2):
            for text in "aba":
                store.build(COPY, tree(text), ("m",))
            self.assertEqual(store.near, (entry("a"), entry("b")) if kind == "eldest" else (entry("b"), entry("a")))
            store.build(COPY, tree("c"), ("m",))
            self.assertEqual(store.near, (entry("b") if kind == "eldest" else entry("a"), entry("c")))
            self.assertEqual(store.far, (entry("a"), entry("b"), entry("c")))

    def test_what_is_found_far_is_laid_near_behind_all_others(self):
        for kind, store in stores(2, *[entry(text) for text in "abc"]):
            for text in "abcb":
                store.build(COPY, tree(text), ("m",))
            self.assertEqual(store.near, (entry("b"), entry("c")) if kind == "eldest" else (entry("c"), entry("b")))
            self.assertEqual(store.far, (entry("a"), entry("b"), entry("c")))

    def test_no_room(self):
        for kind, store in stores(0):
            for text, told in (("a", (("a",), ("m",), (), ())), ("a", (("a",), (), (), ("m",))),
                               ("b", (("b",), ("m",), (), ()))):
                self.assertEqual(store.build(COPY, tree(text), ("m",)), told)
                self.assertEqual(store.near, ())
            self.assertEqual([store.forget(), len(store)], [0, 2])

    def test_room_for_twenty(self):
        for kind, store in stores(20):
            for number in range(21):
                store.build(COPY, tree(str(number)), ("m",))
            self.assertEqual(store.near, tuple([entry(str(number)) for number in range(1, 21)]))
            self.assertEqual([len(store), store.forget(), store.near, store.forget()], [21, 20, (), 0])
            self.assertEqual(store.build(COPY, tree("0"), ("m",))[3], ("m",))

    def test_more_than_forty_far(self):
        store = Store(1, "lately", tuple([entry(str(number)) for number in range(40)]))
        for number in range(45):
            self.assertEqual(store.build(COPY, tree(str(number)), ("m",))[1], () if number < 40 else ("m",))
        self.assertEqual(len(store), 45)

    def test_forget_keeps_what_is_far(self):
        for kind, store in stores(3):
            for text in "ab":
                store.build(COPY, tree(text), ("m",))
            self.assertEqual([store.forget(), store.near, store.far], [2, (), (entry("a"), entry("b"))])
            self.assertEqual(store.build(COPY, tree("a"), ("m",)), (("a",), (), (), ("m",)))

    def test_entries_of_other_rules_are_not_found(self):
        for kind, store in stores(2, entry("a", "n"), (("m", "join", ("s",)), (("text", "s", "a"),), "a")):
            self.assertEqual(store.build(COPY, tree("a"), ("m",)), (("a",), ("m",), (), ()))

    def test_copies(self):
        for kind, store in stores(2, entry("z")):
            for text in "ab":
                store.build(COPY, tree(text), ("m",))
            other = store.copy()
            self.assertIsInstance(other, Store)
            self.assertEqual([other.near, other.far, len(other)], [store.near, store.far, 3])
            self.assertEqual(other.build(COPY, tree("a"), ("m",))[2], ("m",))
            other.build(COPY, tree("c"), ("m",))
            self.assertEqual(other.near, ((entry("b") if kind == "eldest" else entry("a")), entry("c")))
            self.assertEqual([store.near, len(store), other.forget(), store.near],
                             [(entry("a"), entry("b")), 3, 2, (entry("a"), entry("b"))])
            self.assertFalse(store == store.copy())


class Builds(unittest.TestCase):
    def test_in_the_order_in_which_they_end(self):
        book = Book((("a", "join", ("c", "b", "c")), ("b", "size", "c"), ("c", "sort", "s"), ("d", "join", ("b",))))
        for kind, store in stores(9):
            self.assertEqual(store.build(book, tree("xy"), ("a", "b", "d")),
                             (("xy2xy", "2", "2"), ("c", "b", "a", "d"), (), ()))
            self.assertEqual(store.build(book, tree("xy"), ("a", "b", "d")),
                             (("xy2xy", "2", "2"), (), ("c", "b", "a", "d"), ()))
            self.assertEqual(store.build(book, tree("zz"), ("a",)), (("zz2zz",), ("c", "b", "a"), (), ()))
            store.forget()
            self.assertEqual(store.build(book, tree("zz"), ("d",)), (("2",), (), (), ("c", "b", "d")))
            self.assertEqual(store.build(book, tree("zz"), ("a", "d")), (("zz2zz", "2"), (), ("c", "b", "d"), ("a",)))

    def test_one_aim_twice_by_way_of_another(self):
        book = Book((("a", "join", ("b", "b")), ("b", "sort", "s")))
        for kind, store in stores(2):
            self.assertEqual(store.build(book, tree("x"), ("a", "b")), (("xx", "x"), ("b", "a"), (), ()))
            self.assertEqual(store.build(book, tree("x"), ("a", "b")), (("xx", "x"), (), ("b", "a"), ()))

    def test_no_aims(self):
        for kind, store in stores(2, entry("a")):
            self.assertEqual(store.build(COPY, tree("a"), ()), ((), (), (), ()))
            self.assertEqual([store.near, len(store)], [(), 1])

    def test_nothing_lies_from_build_to_build(self):
        book = Book((("a", "join", ("s", "b")), ("b", "need", "s", "x")))
        for kind, store in stores(2):
            self.assertEqual(store.build(book, tree("x"), ("a", "b")), (("xx", "x"), ("b", "a"), (), ()))
            self.assertEqual(store.build(book, tree("y"), ("a", "b")), ((None, None), ("b", "a"), (), ()))
            self.assertEqual(len(store), 2)

    def test_runs_without_a_text_run_again(self):
        book = Book((("a", "size", "b"), ("b", "need", "s", "x"), ("c", "size", "no"), ("l", "join", ("s", "s", "s"))))
        for kind, store in stores(9):
            for _ in range(2):
                self.assertEqual(store.build(book, tree("z" * 200), ("a", "b", "c", "l")),
                                 ((None,) * 4, ("b", "a", "c", "l"), (), ()))
                self.assertEqual([store.near, store.far], [(), ()])

    def test_what_entries_look_at_is_made_until_one_does_not_see_the_same(self):
        book = Book((("a", "join", ("s", "b")), ("b", "sort", "t")))
        for kind, store in stores(9):
            store.build(book, (("s", "1"), ("t", "x")), ("a",))
            self.assertEqual(store.build(book, (("t", "y"),), ("a",)), ((None,), ("a",), (), ()))
            self.assertEqual(store.build(book, (("s", "1"), ("t", "y")), ("a",)), (("1y",), ("b", "a"), (), ()))

    def test_near_entries_are_gone_through_as_they_were(self):
        # Finding b far throws the entry of a out while its looks are gone through: it is found near all the same.
        book = Book((("a", "join", ("b",)), ("b", "sort", "s")))
        a, b = (("a", "join", ("b",)), (("text", "b", "x"),), "x"), entry("x", "b")
        for kind, store in stores(1):
            self.assertEqual(store.build(book, tree("x"), ("a",)), (("x",), ("b", "a"), (), ()))
            self.assertEqual(store.near, (a,))
            self.assertEqual(store.build(book, tree("x"), ("a",)), (("x",), (), ("a",), ("b",)))
            self.assertEqual([store.near, store.far], [(b,) if kind == "eldest" else (a,), (b, a)])

    def test_found_paths_in_the_order_in_which_they_were_found(self):
        book = Book((("a", "join", ("c", "b")), ("b", "sort", "s"), ("c", "size", "b")))
        for kind, store in stores(20):
            store.build(book, tree("x"), ("a",))
            self.assertEqual(store.build(book, tree("x"), ("a",)), (("1x",), (), ("b", "c", "a"), ()))
            store.forget()
            self.assertEqual(store.build(book, tree("x"), ("a",)), (("1x",), (), (), ("b", "c", "a")))
            self.assertEqual([rule[0] for rule, _, _ in store.near], ["b", "c", "a"])

    def test_a_near_one_is_laid_near_again_by_lately_alone(self):
        for kind, store in stores(3, *[entry(text) for text in "abc"]):
            for text in "abca":
                store.build(COPY, tree(text), ("m",))
            self.assertEqual(store.near, tuple([entry(text) for text in ("abc" if kind == "eldest" else "bca")]))

    def test_rings(self):
        book = Book((("p", "join", ("s", "q")), ("q", "join", ("x", "p")), ("w", "join", ("x", "q")),
                     ("x", "sort", "s"), ("y", "join", ("x",))))
        for kind, store in stores(9):
            self.assertEqual(store.build(book, tree("1"), ("p", "w", "y")), ((None, None, "1"), ("x", "y"), (), ()))
            self.assertEqual(store.build(book, tree("1"), ("w", "y")), ((None, "1"), (), ("x", "y"), ()))
            self.assertEqual(store.build(book, tree("1"), ("p", "q")), ((None, None), (), ("x",), ()))
            self.assertEqual(len(store), 2)

    def test_a_ring_that_is_come_to_by_the_looks_of_an_entry(self):
        book = Book((("a", "choose", "s", "b", "t"), ("b", "join", ("a",))))
        for kind, store in stores(9, (("a", "choose", "s", "b", "t"), (("text", "s", "yes"), ("text", "b", "x")), "x")):
            self.assertEqual(store.build(book, (("s", "yes"), ("t", "T")), ("a", "b")), ((None, None), (), (), ()))
            self.assertEqual(store.build(book, (("s", "no"), ("t", "T")), ("a", "b")), (("T", "T"), ("a", "b"), (), ()))
            self.assertEqual(store.build(book, (("s", "no"), ("t", "T")), ("b",)), (("T",), (), ("a", "b"), ()))

    def test_texts_are_those_of_a_clean_build_and_runs_do_not_hang_on_room_and_kind(self):
        dice = random.Random(17)
        for _ in range(60):
            books = [some_book(dice) for _ in range(2)]
            all_stores = [Store(room, kind, ()) for room in (0, 1, 2, 20) for kind in KINDS]
            for _ in range(6):
                book, files, aims = dice.choice(books), some_tree(dice), some_aims(dice, MADE)
                clean = clean_model(book, files)
                texts = tuple([clean[aim][0][1] if clean[aim] and clean[aim][0][0] == "text" else None for aim in aims])
                ran = {store.build(book, files, aims)[:2] for store in all_stores}
                self.assertEqual(len(ran), 1)
                self.assertEqual(ran.pop()[0], texts)
                again = all_stores[0].copy().build(book, files, aims)
                self.assertEqual([made for made in again[1] if clean[made][0][0] == "text"], [])
            self.assertEqual({frozenset(store.far) for store in all_stores}, {frozenset(all_stores[0].far)})

    def test_against_the_model(self):
        dice = random.Random(16)
        near = far = 0
        for _ in range(200):
            books = [some_book(dice) for _ in range(2)]
            room, kind = dice.randint(0, 4), dice.choice(KINDS)
            ahead = Store(20, "lately", ())
            ahead.build(books[0], some_tree(dice), some_aims(dice, MADE))
            store, model = Store(room, kind, ahead.far), StoreModel(room, kind, ahead.far)
            for _ in range(8):
                book, files, aims = dice.choice(books), some_tree(dice), some_aims(dice, MADE)
                with self.subTest(room=room, kind=kind, book=book.rules, files=files, aims=aims):
                    told = store.build(book, files, aims)
                    self.assertEqual(told, model.build(book, files, aims))
                    self.assertEqual([store.near, store.far, len(store)],
                                     [tuple(model.near), tuple(model.far), len(model.far)])
                    near, far = near + len(told[2]), far + len(told[3])
        self.assertGreater(min(near, far), 100)


class Wrong(unittest.TestCase):
    def test_rooms(self):
        for value in STRANGE + ("", (), -1, 21, "1", (1,), [1], {1: 1}):
            if value in (0, 1) and not isinstance(value, bool):
                continue
            with self.subTest(value=value):
                told, fields = fault(Store, value, None, None)
                self.assertEqual([told, list(fields)], [BadNumber, ["n"]])
                self.assertIs(fields["n"], value)
        for value in range(21):
            self.assertEqual(fault(Store, value, "eldest", ())[0], "returned")

    def test_kinds(self):
        for value in STRANGE + ("", (), "Eldest", "newest", "seldom", "best", ("eldest",), ["lately"], {"lately": 1},
                                ("lately", 1)):
            with self.subTest(value=value):
                self.assertEqual(fault(Store, 1, value, None), (BadKind, {}))

    def test_entries(self):
        forty = tuple([entry(str(number)) for number in range(40)])
        self.assertEqual(Store(1, "eldest", forty).far, forty)
        for value in STRANGE + ("", [entry("a")], {entry("a"): 1}, forty + (entry("a"),), forty + (None,), entry("a")):
            index = 0 if isinstance(value, tuple) and len(value) < 41 else None
            with self.subTest(value=value):
                self.assertEqual(fault(Store, 1, "eldest", value), (BadEntries, {"index": index}))
        for thing in STRANGE + ((), "", entry("0"), entry("1"), list(entry("z")), entry("z")[:2],
                                entry("z")[:2] + ("y",)):
            self.assertEqual(fault(Store, 1, "lately", forty[:2] + (thing, None)), (BadEntries, {"index": 2}))
            self.assertEqual(fault(Store, 1, "lately", forty[:39] + (thing,)), (BadEntries, {"index": 39}))

    def test_which_error_comes_first(self):
        self.assertEqual(fault(Store, None, None, None), (BadNumber, {"n": None}))
        self.assertEqual(fault(Store, 21, "no", (None,)), (BadNumber, {"n": 21}))
        self.assertEqual(fault(Store, 20, "no", (None,)), (BadKind, {}))
        self.assertEqual(fault(Store, 20, "lately", (None,)), (BadEntries, {"index": 0}))

    def test_builds(self):
        store = Store(2, "lately", (entry("a"),))
        store.build(COPY, tree("b"), ("m",))
        before = [store.near, store.far]
        for value in STRANGE + ("", ("no",), ("s",), ("m", "m"), ["m"], "m", ("m", "n"), {"m": 1}, ("m", None)):
            with self.subTest(value=value):
                self.assertEqual(fault(store.build, COPY, tree("c"), value), (BadAims, {}))
                self.assertEqual(fault(store.build, value, None, None), (BadBook, {}))
                if value != ():
                    index = 0 if isinstance(value, tuple) and value else None
                    self.assertEqual(fault(store.build, COPY, value, None), (BadTree, {"index": index}))
                self.assertEqual([store.near, store.far], before)


if __name__ == "__main__":
    unittest.main()
