"""Of point 37 what speaks of builders, records, stores and shelves."""

import random
import unittest

from buildroom.books import Book
from buildroom.builders import Builder
from buildroom.caches import Store, true_entry
from buildroom.records import blunt_replays, replays
from buildroom.running import clean, run
from buildroom.shelves import shelf_hits
from buildroom.shops import Shop, follow, left_by
from tests.chance import MADE, some_aims, some_book, some_step, some_tree

BUILD = ("build",)


def clean_texts(book, tree, aims):
    """The texts of a clean build at the aims, None where there is none."""
    outcomes = dict(clean(book, tree))
    return tuple([outcomes[aim][1] if outcomes[aim][0] == "text" else None for aim in aims])


class Across(unittest.TestCase):
    def test_the_same_lies_at_the_aims(self):
        dice = random.Random(37)
        for _ in range(80):
            books = tuple([some_book(dice) for _ in range(dice.randint(1, 3))])
            tree, aims = some_tree(dice), some_aims(dice, MADE)
            row = [some_step(dice, MADE, len(books)) for _ in range(8)] + [BUILD]
            store = Store(dice.randint(0, 20), dice.choice(("eldest", "lately")), ())
            for way in ("always", "whole"):
                builder = Builder(books, tree, aims, way)
                for step in row:
                    builder.do(step)
                book = books[builder.number]
                texts = clean_texts(book, builder.tree, aims)
                self.assertEqual(tuple([dict(builder.lying).get(aim) for aim in aims]), texts)
                self.assertEqual(store.build(book, builder.tree, aims)[0], texts)
                self.assertIs(builder.right(), True)

    def test_what_a_store_finds_near_are_the_hits_of_a_shelf(self):
        dice = random.Random(38)
        book = Book(tuple([(f"m{number}", "sort", "s") for number in range(8)]))
        for _ in range(60):
            requests = tuple([dice.randrange(8) for _ in range(40)])
            for kind in ("eldest", "lately"):
                for room in (1, 2, 3):
                    store, near, ran = Store(room, kind, ()), 0, 0
                    for thing in requests:
                        _, runs, found, _ = store.build(book, (("s", f"text {thing}"),), (f"m{thing}",))
                        near, ran = near + len(found), ran + len(runs)
                    self.assertEqual(near, shelf_hits((kind, room), requests))
                    self.assertEqual([ran, len(store)], [len(set(requests))] * 2)

    def test_records_of_runs_are_true_entries_and_found_just_if_they_replay(self):
        dice = random.Random(39)
        found = missed = 0
        for _ in range(300):
            book, tree, now = some_book(dice), some_tree(dice), some_tree(dice)
            for rule in book.rules:
                outcome, record = run(book, tree, rule[0])
                for text in (None, "", outcome[-1]):
                    self.assertIs(true_entry((rule, record, text)), outcome == ("text", text))
                if outcome[0] == "text":
                    store = Store(1, "lately", ((rule, record, outcome[1]),))
                    _, _, near, far = store.build(book, now, (rule[0],))
                    self.assertEqual(near, ())
                    self.assertEqual(rule[0] in far, replays(book, now, rule, record))
                    self.assertTrue(blunt_replays(book, now, rule, record) or rule[0] not in far)
                    found, missed = found + (far != ()), missed + (far == ())
        self.assertGreater(min(found, missed), 50)

    def test_what_runs_in_a_first_build(self):
        dice = random.Random(40)
        for _ in range(150):
            book, tree = some_book(dice), some_tree(dice)
            made = tuple([path for path, _ in clean(book, tree)])
            rings = [path for path, outcome in clean(book, tree) if outcome == ("ring",)]
            for way in ("always", "records", "whole"):
                ran = Builder((book,), tree, made, way).do(BUILD)
                self.assertEqual(sorted([path for path in ran if path not in rings]),
                                 [path for path in made if path not in rings])
            self.assertEqual(sorted(Store(0, "eldest", ()).build(book, tree, made)[1]),
                             [path for path in made if path not in rings])

    def test_rows_of_shops_are_done_as_by_builders(self):
        dice = random.Random(41)
        for _ in range(40):
            books, tree, aims = (some_book(dice),), some_tree(dice), some_aims(dice, MADE)
            steps = tuple([some_step(dice, MADE, 1) for _ in range(5)])
            builder, row = Builder(books, tree, aims, "records"), (4, 2, 0, 3, 1, 1)
            ran = [builder.do(steps[number]) for number in row]
            shop = Shop(books, tree, aims, steps)
            self.assertEqual([follow(shop, "records", row), left_by(shop, "records", row)],
                             [ran, (builder.tree, builder.lying)])


if __name__ == "__main__":
    unittest.main()
