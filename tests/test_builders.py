"""Points 10 to 13: books, aims and steps, the four ways to tell old from new, rings, and builds that are cut off."""

import random
import unittest

from buildroom.books import Book
from buildroom.builders import Builder
from buildroom.errors import BadAims, BadBooks, BadStep, BadTree, BadWay
from tests.chance import FILES, MADE, some_aims, some_book, some_step, some_tree
from tests.helpers import STRANGE, fault
from tests.models import BuilderModel

WAYS = ("always", "moments", "records", "whole")
BUILD = ("build",)
LONG = "z" * 200


def told(builder, *steps):
    """What do returns for each of the steps."""
    return [builder.do(step) for step in steps]


def builders(books, tree, aims, ways=WAYS):
    """Pairs of each way and a new builder."""
    return [(way, Builder(books, tree, aims, way)) for way in ways]


# Two rules one behind the other: out is made of mid and b, mid of a.
CHAIN = (Book((("out", "join", ("mid", "b")), ("mid", "sort", "a"))),)
TREE = (("a", "y\nx"), ("b", "!"))


class Builds(unittest.TestCase):
    def setUp(self):
        self.built = {}
        for way, builder in builders(CHAIN, TREE, ("out",)):
            self.assertEqual(builder.lying, ())
            first = builder.do(BUILD)
            self.assertEqual(first, ("mid", "out") if way == "moments" else ("out", "mid"))
            self.assertEqual(builder.lying, (("mid", "x\ny"), ("out", "x\ny!")))
            self.built[way] = builder

    def ran(self, *steps):
        """By each way, what the last of some steps ran behind a first build."""
        return {way: told(builder.copy(), *steps)[-1] for way, builder in self.built.items()}

    def ways(self, always=("out", "mid"), moments=(), records=(), whole=()):
        return {"always": always, "moments": moments, "records": records, "whole": whole}

    def test_nothing_changed(self):
        self.assertEqual(self.ran(BUILD), self.ways())
        self.assertEqual(self.ran(BUILD, BUILD), self.ways())

    def test_a_file_is_written(self):
        self.assertEqual(self.ran(("write", "b", "?"), BUILD),
                         self.ways(moments=("out",), records=("out",), whole=("out",)))
        self.assertEqual(self.ran(("write", "a", "z"), BUILD),
                         self.ways(moments=("mid", "out"), records=("mid", "out"), whole=("mid", "out")))

    def test_a_file_is_written_so_that_the_same_is_made_of_it(self):
        self.assertEqual(self.ran(("write", "a", "x\ny"), BUILD),
                         self.ways(moments=("mid", "out"), records=("mid",), whole=("mid",)))

    def test_a_file_is_written_again_or_touched(self):
        for step in (("write", "b", "!"), ("touch", "b")):
            self.assertEqual(self.ran(step, BUILD), self.ways(moments=("out",)))
            self.assertEqual(self.ran(step, BUILD, BUILD), self.ways())
        self.assertEqual(self.ran(("touch", "a"), BUILD), self.ways(moments=("mid", "out")))

    def test_a_file_is_put_back(self):
        self.assertEqual(self.ran(("back", "b", "?"), BUILD), self.ways(records=("out",), whole=("out",)))
        self.assertEqual(self.ran(("write", "b", "?"), ("back", "b", "!"), BUILD), self.ways())
        self.assertEqual(self.ran(("back", "b", "?"), ("touch", "b"), BUILD),
                         self.ways(moments=("out",), records=("out",), whole=("out",)))
        self.built["moments"].do(("back", "b", "?"))
        self.assertIs(self.built["moments"].right(), False)

    def test_a_file_is_dropped(self):
        self.assertEqual(self.ran(("drop", "b"), BUILD), self.ways(moments=("out",), records=("out",), whole=("out",)))
        for way, builder in self.built.items():
            told(builder, ("drop", "b"), BUILD)
            self.assertEqual(builder.lying, (("mid", "x\ny"),))
            self.assertIs(builder.right(), True)
        self.assertEqual(self.ran(BUILD), self.ways(moments=("out",)))
        self.assertEqual(self.ran(("write", "b", "!"), BUILD),
                         self.ways(moments=("out",), records=("out",), whole=("out",)))

    def test_a_file_that_no_rule_looks_at(self):
        self.assertEqual(self.ran(("write", "c", "?"), BUILD), self.ways())

    def test_what_lies_is_spoiled(self):
        self.assertEqual(self.ran(("spoil", "out", "?"), BUILD), self.ways(whole=("out",)))
        self.assertEqual(self.ran(("spoil", "mid", "?"), BUILD),
                         self.ways(moments=("out",), records=("out",), whole=("mid",)))
        self.assertEqual(self.ran(("spoil", "mid", "x\ny"), BUILD), self.ways(moments=("out",)))
        self.assertEqual(self.ran(("spoil", "mid", "?"), ("spoil", "out", "?"), BUILD),
                         self.ways(records=("out",), whole=("out", "mid")))

    def test_what_lies_is_lost(self):
        self.assertEqual(self.ran(("lose", "out"), BUILD), self.ways(moments=("out",), records=("out",),
                                                                     whole=("out",)))
        self.assertEqual(self.ran(("lose", "mid"), BUILD), self.ways(moments=("mid", "out"), records=("mid",),
                                                                     whole=("mid",)))

    def test_a_run_is_forgotten(self):
        self.assertEqual(self.ran(("forget", "out"), BUILD), self.ways(records=("out",), whole=("out",)))
        self.assertEqual(self.ran(("forget", "mid"), BUILD), self.ways(records=("mid",), whole=("mid",)))
        self.assertEqual(self.ran(("forget", "mid"), ("forget", "out"), BUILD),
                         self.ways(records=("out", "mid"), whole=("out", "mid")))

    def test_steps_that_are_no_builds_return_nothing_and_run_nothing(self):
        for way, builder in self.built.items():
            lying = dict(builder.lying)
            for step in (("write", "a", "q"), ("back", "a", "r"), ("touch", "a"), ("drop", "a"), ("forget", "mid"),
                         ("swap", 0)):
                self.assertEqual(builder.do(step), ())
                self.assertEqual(dict(builder.lying), lying)
            self.assertEqual(told(builder, ("spoil", "mid", "q"), ("lose", "out")), [(), ()])
            self.assertEqual(builder.lying, (("mid", "q"),))

    def test_a_rule_that_makes_no_text(self):
        books = (Book((("m", "need", "a", "x"), ("o", "join", ("b", "m")))),)
        for way, builder in builders(books, TREE[1:], ("m", "o")):
            again = () if way in ("records", "whole") else ("m", "o")
            self.assertEqual(told(builder, BUILD, BUILD), [("m", "o"), again])
            builder.do(("write", "a", "y"))
            self.assertEqual(told(builder, BUILD, BUILD), [("m",) if way in ("records", "whole") else ("m", "o"),
                                                           again])
            self.assertEqual([builder.lying, builder.right()], [(), True])
            builder.do(("write", "a", "x"))
            self.assertEqual([builder.do(BUILD), builder.lying], [("m", "o"), (("m", "x"), ("o", "!x"))])

    def test_something_lies_where_the_last_run_made_no_text(self):
        books = (Book((("m", "need", "a", "x"),)),)
        for way, builder in builders(books, (("a", "y"),), ("m",)):
            told(builder, BUILD, ("spoil", "m", "?"))
            self.assertEqual(builder.do(BUILD), () if way in ("moments", "records") else ("m",))
            self.assertEqual(builder.lying, (("m", "?"),) if way in ("moments", "records") else ())
            self.assertIs(builder.right(), way in ("always", "whole"))

    def test_a_look_at_what_lies_not_at_what_was_made(self):
        for way in ("moments", "records"):
            builder = self.built[way]
            told(builder, ("spoil", "mid", "M"), ("touch", "b"), BUILD)
            self.assertEqual(builder.lying, (("mid", "M"), ("out", "M!")))

    def test_names_are_told_apart_by_records_alone(self):
        books = (Book((("m", "names", ""),)),)
        for way, builder in builders(books, (("a", ""),), ("m",)):
            self.assertEqual(told(builder, BUILD, ("write", "b", ""), BUILD)[2], () if way == "moments" else ("m",))
            self.assertEqual(builder.lying, (("m", "a" if way == "moments" else "a\nb"),))
            self.assertEqual(told(builder, ("write", "b", "other"), BUILD)[1], ("m",) if way == "always" else ())

    def test_what_is_found_on_the_way_is_told_apart_by_records_alone(self):
        books = (Book((("m", "use", "s"), ("n", "size", "t"))),)
        for way, builder in builders(books, (("s", "use t\nuse n"), ("t", "abc")), ("m",)):
            self.assertEqual(told(builder, BUILD, ("write", "t", "abcd"), BUILD), [("m", "n"), (), {
                "always": ("m", "n"), "moments": (), "records": ("m", "n"), "whole": ("m", "n")}[way]])
            self.assertEqual(dict(builder.lying)["m"], "abc\n3" if way == "moments" else "abcd\n4")

    def test_told_paths_are_brought_up_by_moments_though_no_look_comes_to_them(self):
        books = (Book((("m", "choose", "s", "b", "c"), ("b", "size", "s"), ("c", "size", "no"))),)
        runs = {way: builder.do(BUILD) for way, builder in builders(books, (("s", "yes"),), ("m",))}
        self.assertEqual(runs, {"always": ("m", "b"), "moments": ("b", "c", "m"), "records": ("m", "b"),
                                "whole": ("m", "b")})

    def test_told_paths_that_are_not_there_make_old_by_moments(self):
        books = (Book((("m", "choose", "s", "t", "no"),)),)
        for way, builder in builders(books, (("s", "yes"), ("t", "")), ("m",)):
            self.assertEqual(told(builder, BUILD, BUILD)[1], () if way in ("records", "whole") else ("m",))

    def test_looks_behind_the_first_that_changed_bring_nothing_up(self):
        books = (Book((("m", "join", ("s", "b")), ("b", "sort", "t"))),)
        for way in ("records", "whole"):
            builder = Builder(books, (("s", "1"), ("t", "2")), ("m",), way)
            builder.do(BUILD)
            told(builder, ("drop", "s"), ("write", "t", "3"))
            self.assertEqual([builder.do(BUILD), builder.lying], [("m",), (("b", "2"),)])

    def test_aims_in_their_order_each_path_once(self):
        books = (Book((("a", "join", ("c", "b", "c")), ("b", "size", "c"), ("c", "join", ()))),)
        for aims, always in ((("a", "b", "c"), ("a", "c", "b")), (("b", "c"), ("b", "c")), (("c",), ("c",)), ((), ())):
            for way, builder in builders(books, (), aims):
                self.assertEqual(builder.do(BUILD),
                                 always if way != "moments" else tuple([path for path in "cba" if path in always]))


class Moments(unittest.TestCase):
    def test_files_at_first_are_earlier_than_each_step(self):
        builder = Builder(CHAIN, TREE, ("out",), "moments")
        told(builder, ("spoil", "mid", "m"), ("spoil", "out", "o"))
        self.assertEqual([builder.do(BUILD), builder.lying], [(), (("mid", "m"), ("out", "o"))])

    def test_what_was_spoiled_later_is_later(self):
        builder = Builder(CHAIN, TREE, ("out",), "moments")
        told(builder, ("spoil", "out", "o"), ("spoil", "mid", "m"))
        self.assertEqual([builder.do(BUILD), builder.lying], [("out",), (("mid", "m"), ("out", "m!"))])

    def test_each_step_that_takes_a_moment(self):
        for step, ran in ((("write", "b", "!"), ("out",)), (("touch", "b"), ("out",)), (("back", "b", "?"), ()),
                          (("touch", "a"), ("mid", "out")),
                          (("spoil", "mid", "x"), ("out",)), (("forget", "mid"), ()), (("swap", 0), ())):
            builder = Builder(CHAIN, TREE, ("out",), "moments")
            told(builder, BUILD, step)
            self.assertEqual(builder.do(BUILD), ran, step)

    def test_what_was_put_back_is_not_later_than_anything(self):
        builder = Builder(CHAIN, TREE, ("out",), "moments")
        told(builder, ("touch", "a"), ("back", "a", "1"), ("spoil", "mid", "m"), ("back", "a", "2"), ("back", "b", "3"),
             BUILD)
        self.assertEqual(builder.lying, (("mid", "m"), ("out", "m3")))

    def test_a_run_that_leaves_the_same_text_takes_a_new_moment(self):
        builder = Builder(CHAIN, TREE, ("mid",), "moments")
        told(builder, BUILD, ("spoil", "out", "o"), ("touch", "a"))
        self.assertEqual(builder.do(BUILD), ("mid",))
        other = Builder(CHAIN, TREE, ("mid", "out"), "moments")
        told(other, BUILD, ("touch", "a"))
        self.assertEqual(other.do(BUILD), ("mid", "out"))

    def test_a_half_takes_a_new_moment(self):
        builder = Builder(CHAIN, TREE, ("out",), "moments")
        self.assertEqual(told(builder, BUILD, ("touch", "a"), ("cut", 0), BUILD, BUILD),
                         [("mid", "out"), (), ("mid",), ("out",), ()])
        self.assertEqual(builder.lying, (("mid", "x"), ("out", "x!")))


class Rings(unittest.TestCase):
    """p and q are a ring, w waits for it, and x makes a text of s alone."""

    books = (Book((("p", "join", ("s", "q")), ("q", "join", ("x", "p")), ("w", "join", ("x", "q")),
                   ("x", "sort", "s"))),)

    def test_a_ring_leaves_nothing_of_those_that_are_brought_up(self):
        for way, builder in builders(self.books, (("s", "1"),), ("w",)):
            told(builder, ("spoil", "p", "P"), ("spoil", "q", "Q"), ("spoil", "w", "W"))
            self.assertEqual(builder.do(BUILD), ("x",) if way == "moments" else ("w", "x", "q", "p"))
            self.assertEqual(builder.lying, (("x", "1"),))
            self.assertIs(builder.right(), True)

    def test_who_looks_at_it_later_falls_too(self):
        for way, builder in builders(self.books, (("s", "1"),), ("p", "w", "x")):
            self.assertEqual(builder.do(BUILD), ("x",) if way == "moments" else ("p", "q", "x", "w"))
            self.assertEqual(builder.lying, (("x", "1"),))

    def test_who_waits_for_one_that_looks_later_falls_too(self):
        books = (Book((("p", "size", "p"), ("v", "size", "x"), ("x", "join", ("s", "p")))),)
        for way, builder in builders(books, (("s", "1"),), ("p", "v")):
            told(builder, ("spoil", "v", "V"), ("spoil", "x", "X"))
            self.assertEqual(builder.do(BUILD), () if way == "moments" else ("p", "v", "x"))
            self.assertEqual(builder.lying, ())

    def test_aims_of_a_ring_are_brought_up_once(self):
        for way, builder in builders(self.books, (("s", "1"),), ("p", "q")):
            self.assertEqual(builder.do(BUILD), ("x",) if way == "moments" else ("p", "q", "x"))

    def test_no_run_of_a_ring_is_kept(self):
        for way in ("records", "whole"):
            builder = Builder(self.books, (("s", "1"),), ("w",), way)
            self.assertEqual(told(builder, BUILD, BUILD), [("w", "x", "q", "p"), ("w", "q", "p")])
            self.assertEqual(told(builder, ("drop", "s"), BUILD), [(), ("w", "x")])

    def test_a_run_from_ahead_of_a_ring_is_not_kept(self):
        # Behind the first build a run without a text is kept; if it still were behind the ring, nothing would be old.
        books = (Book((("a", "choose", "s", "b", "no"), ("b", "join", ("t", "a")))),)
        for way in ("records", "whole"):
            builder = Builder(books, (("s", "no"), ("t", "x")), ("a", "b"), way)
            self.assertEqual(told(builder, BUILD, BUILD), [("a", "b"), ()])
            self.assertEqual(told(builder, ("write", "s", "yes"), BUILD), [(), ("a",)])
            self.assertEqual(told(builder, ("write", "s", "no"), BUILD, BUILD), [(), ("a", "b"), ()])

    def test_what_is_spoiled_behind_a_ring_is_not_that_of_a_run(self):
        books = (Book((("a", "choose", "s", "a", "t"),)),)
        builder = Builder(books, (("s", "no"), ("t", "x")), ("a",), "records")
        self.assertEqual(told(builder, BUILD, ("write", "s", "yes"), BUILD, ("write", "s", "no"), ("spoil", "a", "x")),
                         [("a",), (), ("a",), (), ()])
        self.assertEqual([builder.right(), builder.do(BUILD)], [True, ("a",)])

    def test_a_ring_that_is_come_to_only_on_the_way(self):
        books = (Book((("a", "choose", "s", "b", "t"), ("b", "join", ("t", "a")))),)
        for way, builder in builders(books, (("s", "no"), ("t", "x")), ("a", "b")):
            self.assertEqual(builder.do(BUILD), () if way == "moments" else ("a", "b"))
            self.assertIs(builder.right(), way != "moments")
            self.assertEqual(builder.lying, () if way == "moments" else (("a", "x"), ("b", "xx")))
            self.assertEqual(told(builder, ("write", "s", "yes"), BUILD)[1],
                             {"always": ("a", "b"), "moments": ()}.get(way, ("a",)))
            self.assertEqual([builder.lying, builder.right()], [(), True])

    def test_a_ring_among_looks_of_a_record(self):
        books = (Book((("a", "join", ("b",)), ("b", "sort", "s"))), Book((("a", "join", ("b",)), ("b", "size", "a"))))
        for way, builder in builders(books, (("s", "x"),), ("a",)):
            told(builder, BUILD, ("swap", 1))
            self.assertEqual(builder.do(BUILD), {"always": ("a", "b"), "moments": (), "records": (),
                                                 "whole": ("b",)}[way])
            self.assertEqual(builder.lying, (("a", "x"), ("b", "x")) if way == "records" else ())

    def test_a_ring_of_records_of_another_book(self):
        books = (Book((("a", "join", ("b",)), ("b", "sort", "s"))), Book((("a", "sort", "s"), ("b", "join", ("a",)))))
        builder = Builder(books, (("s", "x"),), ("a", "b"), "records")
        self.assertEqual(told(builder, BUILD, ("forget", "b"), ("swap", 1), BUILD), [("a", "b"), (), (), ("b",)])
        self.assertEqual([builder.lying, builder.right()], [(), False])
        self.assertEqual([builder.do(BUILD), builder.lying], [("a", "b"), (("a", "x"), ("b", "x"))])

    def test_one_that_ran_ahead_of_the_ring_stays(self):
        books = (Book((("p", "join", ("x", "p")), ("x", "sort", "s"))),)
        for way, builder in builders(books, (("s", "1"),), ("p",)):
            self.assertEqual(builder.do(BUILD), ("x",) if way == "moments" else ("p", "x"))
            self.assertEqual(builder.lying, (("x", "1"),))

    def test_by_moments_who_tells_one_that_fell_ahead_falls_too(self):
        books = (Book((("p", "size", "p"), ("x", "choose", "s", "t", "p"), ("y", "join", ("no", "p")))),)
        for aims in (("p", "x", "y"), ("p", "y"), ("x", "y"), ("x",), ("y",)):
            builder = Builder(books, (("s", "yes"), ("t", "T")), aims, "moments")
            told(builder, ("spoil", "x", "X"), ("spoil", "y", "Y"))
            self.assertEqual([builder.do(BUILD), [pair for pair in builder.lying if pair[0] in aims]], [(), []])
            self.assertIs(builder.right(), "x" not in aims)

    def test_by_moments_it_is_the_same_how_one_comes_to_a_ring(self):
        # q is told by all rules of each kind; it fell as an aim ahead of them, for one of them, or for one ahead.
        kinds = (("join", ("s", "q")), ("size", "q"), ("sort", "q"), ("pick", "q", "x"), ("use", "q"), ("need", "q", "x"),
                 ("choose", "q", "s", "s"), ("choose", "s", "q", "t"), ("choose", "s", "t", "q"))
        for kind in kinds:
            books = (Book((("q", "join", ("q",)), ("w", *kind), ("x", *kind), ("y", "join", ("t", "x", "s")),
                           ("z", "choose", "s", "s", "y"))),)
            for aims in (("q", "w", "x", "y", "z"), ("w", "x", "y", "z"), ("q", "z"), ("w", "z"), ("z",)):
                for words in ("yes", "no"):
                    builder = Builder(books, (("s", words), ("t", "T")), aims, "moments")
                    told(builder, ("spoil", "z", "Z"))
                    self.assertEqual([builder.do(BUILD), builder.lying], [(), ()])

    def test_by_moments_one_told_ahead_of_a_fallen_one_is_brought_up(self):
        books = (Book((("p", "size", "p"), ("v", "size", "s"), ("w", "size", "s"), ("x", "join", ("v", "p", "w")))),)
        for aims in (("p", "x"), ("x",)):
            builder = Builder(books, (("s", "12"),), aims, "moments")
            self.assertEqual([builder.do(BUILD), builder.lying], [("v",), (("v", "2"),)])

    def test_by_moments_a_run_that_falls_behind_its_beginning(self):
        # What is found on the way is no told path: these rules are told old, and begin to run, ahead of their fall.
        books = (Book((("p", "size", "p"), ("x", "use", "s"))),)
        for aims in (("p", "x"), ("x",)):
            builder = Builder(books, (("s", "use p"),), aims, "moments")
            self.assertEqual([builder.do(BUILD), builder.lying], [("x",), ()])

    def test_no_run_is_kept_of_those_that_fell_behind_a_ring(self):
        books = (Book((("p", "choose", "s", "p", "t"), ("x", "join", ("t", "p")), ("y", "size", "x"))),)
        for way in ("records", "whole"):
            builder = Builder(books, (("s", "no"), ("t", "T")), ("p", "x", "y"), way)
            self.assertEqual(told(builder, BUILD, BUILD), [("p", "x", "y"), ()])
            self.assertEqual(told(builder, ("write", "s", "yes"), BUILD), [(), ("p",)])
            self.assertEqual(builder.lying, ())
            self.assertEqual(told(builder, ("write", "s", "no"), BUILD), [(), ("p", "x", "y")])

    def test_a_ring_in_one_build_is_none_in_the_next(self):
        books = (Book((("a", "use", "s"),)),)
        for way, builder in builders(books, (("s", "use a"),), ("a",)):
            self.assertEqual(told(builder, BUILD, ("write", "s", "x"), BUILD), [("a",), (), ("a",)])
            self.assertEqual([builder.lying, builder.right()], [(("a", "x"),), True])


class Cuts(unittest.TestCase):
    def test_each_run(self):
        for way, builder in builders(CHAIN, (("a", "54321"), ("b", "!")), ("out",)):
            first, last = ("mid", "out") if way == "moments" else ("out", "mid")
            for number, ran, lying in ((0, (first,) if way == "moments" else (first, last),
                                        (("mid", "54"),) if way == "moments" else (("mid", "54321"), ("out", "543"))),
                                       (1, (first, last), (("mid", "54321"),
                                                           ("out", "543")) if way == "moments" else (("mid", "54"),)),
                                       (2, (first, last), (("mid", "54321"), ("out", "54321!"))),
                                       (20, (first, last), (("mid", "54321"), ("out", "54321!")))):
                with self.subTest(way, number=number):
                    other = builder.copy()
                    self.assertEqual([other.do(("cut", number)), other.lying], [ran, lying])

    def test_halves_are_rounded_down(self):
        books = (Book((("m", "join", ("s", "s", "t")),)),)
        for text, more, half in (("", "", ""), ("", "x", ""), ("a", "", "a"), ("a", "x", "a"), ("ab", "", "ab"),
                                 ("ab", "x", "ab"), (LONG, "", LONG)):
            builder = Builder(books, (("s", text), ("t", more)), ("m",), "whole")
            self.assertEqual([builder.do(("cut", 0)), builder.lying], [("m",), (("m", half),)])

    def test_a_run_without_a_text_leaves_what_lay_there(self):
        books = (Book((("m", "need", "s", "x"), ("n", "size", "s"))),)
        for way, builder in builders(books, (("s", "ax"),), ("m", "n")):
            told(builder, BUILD, ("write", "s", "b"))
            self.assertEqual(builder.do(("cut", 0)), ("m",))
            self.assertEqual(builder.lying, (("m", "ax"), ("n", "2")))

    def test_the_run_ahead_stays_kept(self):
        books = (Book((("m", "sort", "s"),)),)
        for way in ("records", "whole"):
            builder = Builder(books, (("s", "abcd"),), ("m",), way)
            told(builder, BUILD, ("write", "s", "xyz1"))
            self.assertEqual([builder.do(("cut", 0)), builder.lying], [("m",), (("m", "xy"),)])
            builder.do(("back", "s", "abcd"))
            self.assertEqual(builder.do(BUILD), () if way == "records" else ("m",))
            told(builder, ("write", "s", "xyz1"))
            self.assertEqual([builder.do(BUILD), builder.lying], [("m",), (("m", "xyz1"),)])

    def test_a_run_that_was_cut_off_is_not_kept(self):
        books = (Book((("m", "sort", "s"),)),)
        for way, builder in builders(books, (("s", "abcd"),), ("m",)):
            self.assertEqual(told(builder, ("cut", 0), BUILD), [("m",), () if way == "moments" else ("m",)])

    def test_nothing_that_waits_goes_on(self):
        books = (Book((("a", "join", ("b", "c")), ("b", "join", ("c",)), ("c", "sort", "s"), ("d", "size", "s"))),)
        for number, ran, lying in ((0, ("a", "b", "c"), (("a", "wxwx"), ("b", "wxwx"), ("c", "wxwx"))),
                                   (1, ("a", "b", "c"), (("b", "wx"), ("c", "wxwx"))),
                                   (2, ("a", "b", "c"), (("c", "wx"),)), (3, ("a", "b", "c", "d"), None)):
            builder = Builder(books, (("s", "wxwx"),), ("a", "d"), "always")
            self.assertEqual(builder.do(("cut", number)), ran)
            self.assertEqual(builder.lying, lying or (("a", "wxwxwxwx"), ("b", "wxwx"), ("c", "wxwx"), ("d", "")))

    def test_runs_that_ended_ahead_of_the_cut_are_kept(self):
        builder = Builder(CHAIN, TREE, ("out",), "records")
        self.assertEqual(told(builder, ("cut", 0), BUILD), [("out", "mid"), ("out",)])

    def test_a_run_that_falls_to_a_ring_does_not_end(self):
        books = (Book((("p", "join", ("s", "p")), ("x", "sort", "s"))),)
        for number, lying in ((0, (("x", "12"),)), (1, (("x", "1"),)), (2, (("x", "12"),))):
            for way in ("always", "records", "whole"):
                builder = Builder(books, (("s", "12"),), ("p", "x"), way)
                self.assertEqual([builder.do(("cut", number)), builder.lying], [("p", "x"), lying])

    def test_a_cut_of_a_build_that_runs_nothing(self):
        for way in ("moments", "records", "whole"):
            builder = Builder(CHAIN, TREE, ("out",), way)
            builder.do(BUILD)
            self.assertEqual([builder.do(("cut", 0)), builder.right()], [(), True])


class Steps(unittest.TestCase):
    def test_steps_that_cannot_be_done_change_nothing(self):
        full = tuple([(f"f{number:02}", "") for number in range(20)])
        books = (Book((("m", "size", "f00"),)),)
        for way, builder in builders(books, full, ("m",)):
            builder.do(BUILD)
            before = [builder.tree, builder.lying, builder.number]
            for step in (("write", "g", "x"), ("back", "g", "x"), ("write", "f00/a", "x"), ("back", "f01/a/b", ""),
                         ("drop", "g"), ("touch", "g")):
                self.assertEqual(builder.do(step), ())
                self.assertEqual([builder.tree, builder.lying, builder.number], before)
            self.assertEqual(told(builder, ("lose", "m"), ("lose", "m"), ("forget", "m"), ("forget", "m")), [()] * 4)
            self.assertEqual([builder.tree, builder.lying], [full, ()])
            self.assertEqual(builder.do(("drop", "f19")), ())
            self.assertEqual(told(builder, ("write", "g", "x"), ("write", "h", "y")), [(), ()])
            self.assertEqual(builder.tree, full[:19] + (("g", "x"),))

    def test_clashes(self):
        builder = Builder((Book(()),), (("a/b", ""), ("c", "")), (), "always")
        for path in ("a", "a/b/c", "c/d", "c/d/e"):
            for word in ("write", "back"):
                builder.do((word, path, "x"))
                self.assertEqual(builder.tree, (("a/b", ""), ("c", "")))
        told(builder, ("drop", "a/b"), ("write", "a", "x"), ("drop", "c"), ("back", "c/d", "y"))
        self.assertEqual(builder.tree, (("a", "x"), ("c/d", "y")))

    def test_write_back_and_drop_change_the_tree(self):
        builder = Builder((Book(()),), (("b", "1"),), (), "moments")
        told(builder, ("write", "a", "2"), ("back", "c", "3"), ("write", "b", ""))
        self.assertEqual(builder.tree, (("a", "2"), ("b", ""), ("c", "3")))
        told(builder, ("drop", "b"), ("touch", "a"), ("touch", "b"))
        self.assertEqual(builder.tree, (("a", "2"), ("c", "3")))

    def test_files_at_made_paths_are_names_alone(self):
        books = (Book((("m", "names", ""), ("n", "join", ("m",)))),)
        for way, builder in builders(books, (("m", "file"),), ("n",)):
            builder.do(BUILD)
            self.assertEqual(builder.lying, (("m", "m"), ("n", "m")))
            self.assertEqual(builder.tree, (("m", "file"),))

    def test_steps(self):
        books = (Book((("m", "size", "a"), ("n/o", "size", "a"))), Book((("m", "size", "a"), ("p", "size", "a"))))
        right = [BUILD] + [("cut", number) for number in range(21)] + [("swap", 0), ("swap", 1)]
        right += [(word, path, text) for word in ("write", "back") for path in ("a", "m/x", "n",
            "q/r/s") for text in ("", LONG, "~\n ")]
        right += [(word, path) for word in ("drop", "touch") for path in ("a", "n/x", "n")]
        right += [(word, path) for word in ("lose", "forget") for path in ("m", "n/o", "p")] + [("spoil", path,
            "x") for path in ("m", "n/o", "p")]
        for step in right:
            with self.subTest(step):
                self.assertEqual(fault(Builder(books, (), ("m",), "whole").do, step)[0], "returned")

    def test_no_steps(self):
        books = (Book((("m", "size", "a"), ("n/o", "size", "a"))), Book((("m", "size", "a"), ("p", "size", "a"))))
        wrong = [(), ("build", 0), ["build"], "build", ("Build",), (("build",),), ("cut",), ("cut", -1), ("cut", 21),
                 ("cut", True), ("cut", "1"),
                 ("cut", None), ("cut", 0, 0), ("swap",), ("swap", 2), ("swap", -1), ("swap", False), ("swap", True),
                 ("swap", (0,)), ("swap", 0, 0)]
        wrong += [(word, path, "x") for word in ("write", "back") for path in ("m", "n/o", "p", "", "A", None, ("a",),
            1)]
        wrong += [(word, "a", text) for word in ("write", "back") for text in (LONG + "z", "\t", None, 1, ("x",),
            ["x"])]
        wrong += [(word, path) for word in ("drop", "touch") for path in ("m", "n/o", "p", "", None, ["a"])]
        wrong += [(word, path) for word in ("lose", "forget") for path in ("a", "n", "m/x", "", None, {"m": "m"})]
        wrong += [("spoil", path, "x") for path in ("a", "n", "", None)] + [("spoil", "m",
            text) for text in (LONG + "z", None, "\x7f")]
        wrong += [("write", "a"), ("write", "a", "x", "y"), ("back", "a"), ("drop",), ("drop", "a", "x"), ("touch",),
                  ("touch", "a", ""), ("spoil", "m"),
                  ("spoil", "m", "x", "y"), ("lose",), ("lose", "m", ""), ("forget",), ("forget", "m", ""), (None,),
                  (["build"],), ({},), ("undo",)]
        for way, builder in builders(books, (("a", "x"),), ("m",)):
            builder.do(BUILD)
            before = [builder.tree, builder.lying, builder.number]
            for value in list(STRANGE) + wrong:
                with self.subTest(way, value=value):
                    self.assertEqual(fault(builder.do, value), (BadStep, {}))
                    self.assertEqual([builder.tree, builder.lying, builder.number], before)
            self.assertEqual(builder.do(BUILD), ("m",) if way == "always" else ())


class Swaps(unittest.TestCase):
    def test_the_number(self):
        builder = Builder(CHAIN * 3, TREE, ("out",), "always")
        self.assertEqual(builder.number, 0)
        for number in (2, 1, 1, 0):
            builder.do(("swap", number))
            self.assertEqual(builder.number, number)

    def test_each_way_behind_a_swap(self):
        books = CHAIN + (Book((("mid", "join", ("a",)), ("out", "join", ("mid", "b")))),)
        for way, builder in builders(books, TREE, ("out",)):
            told(builder, BUILD, ("swap", 1))
            self.assertIs(builder.right(), False)
            self.assertEqual(builder.do(BUILD), {"always": ("out", "mid"), "whole": ("mid", "out")}.get(way, ()))
            self.assertIs(builder.right(), way in ("always", "whole"))
            self.assertEqual(told(builder, ("swap", 0), BUILD)[1],
                             {"always": ("out", "mid"), "whole": ("mid", "out")}.get(way, ()))
            self.assertIs(builder.right(), True)

    def test_a_path_that_one_book_alone_makes(self):
        books = (Book((("m", "join", ("n",)), ("n", "sort", "s"))), Book((("m", "join", ("n",)),)))
        for way, builder in builders(books, (("n", "file"), ("s", "made")), ("m",)):
            builder.do(BUILD)
            self.assertEqual(builder.lying, (("m", "made"), ("n", "made")))
            self.assertEqual(told(builder, ("swap", 1), BUILD)[1], () if way == "moments" else ("m",))
            self.assertEqual(builder.lying, (("m", "made" if way == "moments" else "file"), ("n", "made")))
            self.assertEqual(told(builder, ("spoil", "n", "?"), BUILD)[1], ("m",) if way == "always" else ())

    def test_aims_are_made_by_all_books(self):
        one, two = Book((("m", "size", "a"), ("n", "size", "a"))), Book((("n", "size", "a"), ("o", "size", "a")))
        self.assertEqual(fault(Builder, (one, two), (), ("n",), "always")[0], "returned")
        for aims in (("m",), ("o",), ("m", "n"), ("n", "o")):
            self.assertEqual(fault(Builder, (one, two), (), aims, "always"), (BadAims, {}))
            self.assertEqual(fault(Builder, (one, one), (), ("m", "n"), "always")[0], "returned")


class Right(unittest.TestCase):
    def test_before_the_first_build(self):
        for way, builder in builders(CHAIN, TREE, ("out",)):
            self.assertIs(builder.right(), False)
        for way, builder in builders(CHAIN, (), ("mid", "out")):
            self.assertIs(builder.right(), True)
        for way, builder in builders(CHAIN, TREE, ()):
            self.assertEqual([builder.right(), builder.do(BUILD), builder.right()], [True, (), True])

    def test_just_the_aims_count(self):
        builder = Builder(CHAIN, TREE, ("mid",), "always")
        told(builder, ("spoil", "mid", "x\ny"), ("spoil", "out", "?"))
        self.assertIs(builder.right(), True)
        builder.do(("spoil", "mid", "y\nx"))
        self.assertIs(builder.right(), False)

    def test_nothing_may_lie_where_there_is_no_text(self):
        builder = Builder((Book((("m", "size", "m"), ("n", "size", "s"))),), (), ("m", "n"), "always")
        self.assertIs(builder.right(), True)
        for made in ("m", "n"):
            builder.do(("spoil", made, ""))
            self.assertIs(builder.right(), False)
            builder.do(("lose", made))

    def test_always_and_whole_are_right_behind_each_build(self):
        dice = random.Random(13)
        for _ in range(60):
            books = tuple([some_book(dice) for _ in range(dice.randint(1, 3))])
            tree, aims = some_tree(dice), some_aims(dice, MADE)
            for way, builder in builders(books, tree, aims, ("always", "whole")):
                for _ in range(10):
                    builder.do(some_step(dice, MADE, len(books)))
                builder.do(BUILD)
                self.assertIs(builder.right(), True)


class Copies(unittest.TestCase):
    def test_a_copy_stands_as_the_builder_and_is_independent(self):
        dice = random.Random(14)
        for number in range(40):
            books = tuple([some_book(dice) for _ in range(2)])
            builder = Builder(books, some_tree(dice), some_aims(dice, MADE), WAYS[number % 4])
            told(builder, *[some_step(dice, MADE, 2) for _ in range(6)])
            row = [some_step(dice, MADE, 2) for _ in range(6)]
            one, other = builder.copy(), builder.copy()
            before = [builder.number, builder.tree, builder.lying]
            ran = told(one, *row)
            self.assertEqual([builder.number, builder.tree, builder.lying], before)
            told(builder, *row[::-1])
            self.assertEqual(told(other, *row), ran)
            self.assertEqual([other.number, other.tree, other.lying], [one.number, one.tree, one.lying])

    def test_kinds(self):
        builder = Builder(CHAIN, TREE, ("out",), "whole")
        self.assertIsInstance(builder.copy(), Builder)
        self.assertIsNot(builder.copy(), builder)
        self.assertFalse(builder == builder.copy())
        for name in ("number", "tree", "lying"):
            self.assertIsInstance(vars(Builder)[name], property)
        self.assertLessEqual({"do", "right", "copy"}, set(vars(Builder)))


class AgainstTheModel(unittest.TestCase):
    def test_many_rows(self):
        dice = random.Random(11)
        seen = {}
        for _ in range(150):
            many = dice.randint(1, 3)
            books = tuple([some_book(dice) for _ in range(many)])
            tree, aims = some_tree(dice, FILES + ("a",)), some_aims(dice, MADE)
            for way in WAYS:
                builder, model = Builder(books, tree, aims, way), BuilderModel(books, tree, aims, way)
                row = []
                for _ in range(12):
                    row.append(some_step(dice, MADE, many))
                    with self.subTest(way, books=[book.rules for book in books], tree=tree, aims=aims, row=row):
                        self.assertEqual(builder.do(row[-1]), model.do(row[-1]))
                        self.assertEqual([builder.number, builder.tree, builder.lying],
                                         [model.number, model.tree, model.lying])
                        self.assertIs(builder.right(), model.right())
                    seen[way, builder.right()] = True
        self.assertEqual(len(seen), 8)


class Wrong(unittest.TestCase):
    def test_books(self):
        book = CHAIN[0]
        for value in STRANGE + ("", book, [book], {0: book}, (), (book,) * 4, (None,) * 4):
            index = 0 if isinstance(value, tuple) and 1 <= len(value) <= 3 else None
            with self.subTest(value=value):
                self.assertEqual(fault(Builder, value, None, None, None), (BadBooks, {"index": index}))
        for thing in STRANGE + ((), book.rules, [book], (book,)):
            self.assertEqual(fault(Builder, (book, thing, None), (), (), "always"), (BadBooks, {"index": 1}))
        for many in (1, 2, 3):
            self.assertEqual(fault(Builder, (book,) * many, (), (), "always")[0], "returned")

    def test_aims(self):
        wrong = ("", "mid", ["mid"], ("a",), ("out", "mid"), ("mid", "mid"), ("mid", "out", "out"), ("mid", None),
                 (["mid"],), (("mid",),), {"mid": 1},
                 ("mid", "no"), (0,))
        for value in STRANGE + wrong:
            with self.subTest(value=value):
                self.assertEqual(fault(Builder, CHAIN, TREE, value, None), (BadAims, {}))
        for value in ((), ("mid",), ("out",), ("mid", "out")):
            self.assertEqual(fault(Builder, CHAIN, TREE, value, "always")[0], "returned")

    def test_ways(self):
        for value in STRANGE + ("", "Always", "moment", "record", ("always",), ["whole"], {"whole": 1}, "always ",
                                b"always"):
            with self.subTest(value=value):
                self.assertEqual(fault(Builder, CHAIN, TREE, ("out",), value), (BadWay, {}))

    def test_which_error_comes_first(self):
        self.assertEqual(fault(Builder, (None,), (None,), None, None), (BadBooks, {"index": 0}))
        self.assertEqual(fault(Builder, CHAIN, (None,), None, None), (BadTree, {"index": 0}))
        self.assertEqual(fault(Builder, CHAIN, None, ("no",), "no"), (BadTree, {"index": None}))
        self.assertEqual(fault(Builder, CHAIN, (), ("no",), "no"), (BadAims, {}))
        self.assertEqual(fault(Builder, CHAIN, (), ("mid",), "no"), (BadWay, {}))


if __name__ == "__main__":
    unittest.main()
