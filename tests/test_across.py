"""Point 37: what holds across the parts of the program; a test at least for each of its sentences."""

import random
import unittest

from buildroom.books import Book, told_ring
from buildroom.builders import Builder
from buildroom.caches import Store, true_entry
from buildroom.changes import moved, needed, same_moved
from buildroom.desk import Desk
from buildroom.jobs import plan_of
from buildroom.machines import best_schedule, least_end, schedule_end
from buildroom.records import blunt_replays, replays
from buildroom.running import clean, run
from buildroom.shelves import shelf_hits
from buildroom.shops import Shop, follow, left_by
from buildroom.slots import count_stuck, fewest_slots, never_stuck
from buildroom.tellback import explained, least_explained, sure_done, sure_files, sure_runs
from buildroom.texts import book_text, read_book, read_steps, read_tree, steps_text, tree_text
from tests.chance import MADE, some_aims, some_book, some_step, some_tree

BUILD = ("build",)
WAYS = ("always", "moments", "records", "whole")


def clean_texts(book, tree, aims):
    """The texts of a clean build at the aims, None where there is none."""
    outcomes = dict(clean(book, tree))
    return tuple([outcomes[aim][1] if outcomes[aim][0] == "text" else None for aim in aims])


class Across(unittest.TestCase):
    def test_the_same_lies_at_the_aims(self):
        dice = random.Random(37)
        for _ in range(80):
            books = tuple([some_book(dice) for _ in range(dice.randint(1, 3))])
            tree, aims = some_tree(dice), some_aims(dice, MADE)
            row = [some_step(dice, MADE, len(books)) for _ in range(8)] + [BUILD]
            store = Store(dice.randint(0, 20), dice.choice(("eldest", "lately")), ())
            for way in ("always", "whole"):
                builder, desk = Builder(books, tree, aims, way), Desk(books, tree, aims, way)
                for step in row:
                    self.assertEqual(desk.do(step), builder.do(step))
                self.assertEqual([desk.texts, desk.files, desk.right()], [builder.lying, builder.tree, True])
                book = books[builder.number]
                texts = clean_texts(book, builder.tree, aims)
                self.assertEqual(tuple([dict(builder.lying).get(aim) for aim in aims]), texts)
                self.assertEqual(store.build(book, builder.tree, aims)[0], texts)
                self.assertIs(builder.right(), True)

    def test_what_a_store_finds_near_are_the_hits_of_a_shelf(self):
        dice = random.Random(38)
        book = Book(tuple([(f"m{number}", "sort", "s") for number in range(8)]))
        for _ in range(60):
            requests = tuple([dice.randrange(8) for _ in range(40)])
            for kind in ("eldest", "lately"):
                for room in (1, 2, 3):
                    store, near, ran = Store(room, kind, ()), 0, 0
                    for thing in requests:
                        _, runs, found, _ = store.build(book, (("s", f"text {thing}"),), (f"m{thing}",))
                        near, ran = near + len(found), ran + len(runs)
                    self.assertEqual(near, shelf_hits((kind, room), requests))
                    self.assertEqual([ran, len(store)], [len(set(requests))] * 2)

    def test_records_of_runs_are_true_entries_and_found_just_if_they_replay(self):
        dice = random.Random(39)
        found = missed = 0
        for _ in range(300):
            book, tree, now = some_book(dice), some_tree(dice), some_tree(dice)
            for rule in book.rules:
                outcome, record = run(book, tree, rule[0])
                for text in (None, "", outcome[-1]):
                    self.assertIs(true_entry((rule, record, text)), outcome == ("text", text))
                if outcome[0] == "text":
                    store = Store(1, "lately", ((rule, record, outcome[1]),))
                    _, _, near, far = store.build(book, now, (rule[0],))
                    self.assertEqual(near, ())
                    self.assertEqual(rule[0] in far, replays(book, now, rule, record))
                    self.assertTrue(blunt_replays(book, now, rule, record) or rule[0] not in far)
                    found, missed = found + (far != ()), missed + (far == ())
        self.assertGreater(min(found, missed), 50)

    def test_what_runs_in_a_first_build(self):
        dice = random.Random(40)
        for _ in range(150):
            book, tree = some_book(dice), some_tree(dice)
            made = tuple([path for path, _ in clean(book, tree)])
            rings = [path for path, outcome in clean(book, tree) if outcome == ("ring",)]
            for way in ("always", "records", "whole"):
                ran = Builder((book,), tree, made, way).do(BUILD)
                self.assertEqual(sorted([path for path in ran if path not in rings]),
                                 [path for path in made if path not in rings])
            self.assertEqual(sorted(Store(0, "eldest", ()).build(book, tree, made)[1]),
                             [path for path in made if path not in rings])

    def test_rows_of_shops_are_done_as_by_builders(self):
        dice = random.Random(41)
        for _ in range(40):
            books, tree, aims = (some_book(dice),), some_tree(dice), some_aims(dice, MADE)
            steps = tuple([some_step(dice, MADE, 1) for _ in range(5)])
            builder, row = Builder(books, tree, aims, "records"), (4, 2, 0, 3, 1, 1)
            ran = [builder.do(steps[number]) for number in row]
            shop = Shop(books, tree, aims, steps)
            self.assertEqual([follow(shop, "records", row), left_by(shop, "records", row)],
                             [ran, (builder.tree, builder.lying)])

    def test_what_runs_in_a_first_build_is_the_plan_of_its_jobs(self):
        dice = random.Random(42)
        for _ in range(150):
            book, tree = some_book(dice), some_tree(dice)
            made = tuple([path for path, _ in clean(book, tree)])
            rings = [path for path, outcome in clean(book, tree) if outcome == ("ring",)]
            paths, plan = plan_of(book, tree, (1,) * len(book))
            self.assertEqual(len(plan), len(paths))
            for way in ("always", "records", "whole"):
                for builder in (Builder((book,), tree, made, way), Desk((book,), tree, made, way)):
                    self.assertEqual(sorted(set(builder.do(BUILD)) - set(rings)), sorted(paths))
            self.assertEqual(sorted(set(needed(book, tree, made)) - set(rings)), sorted(paths))

    def test_by_moments_what_runs_in_a_first_build_is_the_plan_if_there_is_no_told_ring(self):
        dice, many = random.Random(43), 0
        for _ in range(150):
            book, tree = some_book(dice), some_tree(dice)
            if told_ring(book) is None and not any(rule[1] == "use" for rule in book.rules):
                made = tuple([path for path, _ in clean(book, tree)])
                ran = Builder((book,), tree, made, "moments").do(BUILD)
                self.assertEqual(sorted(ran), sorted(plan_of(book, tree, (1,) * len(book))[0]))
                many += 1
        self.assertGreater(many, 10)

    def test_plans_of_jobs_on_one_machine_and_with_a_slot_for_each(self):
        dice, many = random.Random(44), 0
        for _ in range(100):
            book, tree = some_book(dice), some_tree(dice)
            lengths = tuple([dice.randint(1, 99) for _ in book.rules])
            paths, plan = plan_of(book, tree, lengths)
            if plan != ():
                many += 1
                length_of = dict(zip([rule[0] for rule in book.rules], lengths))
                total = sum(length_of[made] for made in paths)
                for room in (1, 99):
                    self.assertEqual(least_end(plan, 1, room), total)
                    self.assertEqual(schedule_end(plan, 1, room, best_schedule(plan, 1, room)), total)
                self.assertIs(never_stuck(plan, len(plan)), True)
                self.assertEqual(count_stuck(plan, len(plan)), 0)
                self.assertLessEqual(fewest_slots(plan), len(plan))
        self.assertGreater(many, 50)

    def test_all_steps_of_a_desk_can_be_taken_back_and_done_again(self):
        dice = random.Random(45)
        for number in range(40):
            books, tree = tuple([some_book(dice) for _ in range(2)]), some_tree(dice)
            desk = Desk(books, tree, some_aims(dice, MADE), WAYS[number % 4])
            shown = [(desk.texts, desk.files, desk.right())]
            for _ in range(12):
                desk.do(some_step(dice, MADE, 2))
                shown.append((desk.texts, desk.files, desk.right()))
            row, would = desk.row, desk.would(BUILD)
            for standing in reversed(shown[:-1]):
                self.assertIs(desk.undo(), True)
                self.assertEqual((desk.texts, desk.files, desk.right()), standing)
            self.assertEqual([desk.undo(), desk.texts, desk.files, desk.row], [False, (), tree, ()])
            for standing in shown[1:]:
                self.assertIs(desk.redo(), True)
                self.assertEqual((desk.texts, desk.files, desk.right()), standing)
            self.assertEqual([desk.redo(), desk.row, desk.would(BUILD)], [False, row, would])

    def test_a_row_that_was_done_explains_what_lies(self):
        dice = random.Random(46)
        for number in range(60):
            books, tree, aims = (some_book(dice), some_book(dice)), some_tree(dice), some_aims(dice, MADE)
            steps = tuple([some_step(dice, MADE, 2) for _ in range(4)])
            row = tuple([dice.randrange(4) for _ in range(dice.randint(0, 3))])
            shop, way, builder = Shop(books, tree, aims, steps), WAYS[number % 4], Builder(books, tree, aims, WAYS[number % 4])
            ran = {made for at in row for made in builder.do(steps[at])}
            told = (shop, way, len(row), builder.lying)
            self.assertIn(row, explained(*told))
            self.assertLessEqual((len(least_explained(*told)), least_explained(*told)), (len(row), row))
            self.assertLessEqual(set(sure_done(*told)), set(row))
            self.assertLessEqual(set(sure_runs(*told)), ran)
            self.assertLessEqual(set(sure_files(*told)), set(builder.tree))

    def test_a_path_that_is_renamed_everywhere_changes_nothing_but_itself(self):
        dice = random.Random(47)
        kinds = ("join", "size", "sort", "pick", "choose", "need")
        for _ in range(150):
            book, tree = some_book(dice, kinds=kinds), some_tree(dice)
            old = dice.choice([path for path, _ in tree] + [rule[0] for rule in book.rules])
            then = dict(clean(*moved(book, tree, old, "n/e/w")))
            self.assertIs(same_moved(book, tree, old, "n/e/w"), True)
            for made, outcome in clean(book, tree):
                if outcome[0] in ("missing", "stopped") and outcome[1] == old:
                    outcome = (outcome[0], "n/e/w")
                self.assertEqual(then["n/e/w" if made == old else made], outcome)

    def test_written_and_read_again_shops_are_equal(self):
        dice = random.Random(48)
        for _ in range(60):
            books = tuple([some_book(dice) for _ in range(dice.randint(1, 3))])
            tree, aims = some_tree(dice), some_aims(dice, MADE)
            steps = tuple([some_step(dice, MADE, len(books)) for _ in range(dice.randint(0, 8))])
            again = Shop(tuple([read_book(book_text(book)) for book in books]), read_tree(tree_text(tree)), aims,
                         read_steps(steps_text(steps)))
            self.assertEqual(again, Shop(books, tree, aims, steps))
            self.assertEqual(again.steps, steps)


if __name__ == "__main__":
    unittest.main()
