"""Point 23: orders, schedules by their lists, the worst and the best of these, and surprises."""

import itertools
import math
import random
import unittest

from buildroom.errors import BadLength, BadMachines, BadOrder, BadPlan, BadRoom, TooManyStates
from buildroom.lists import best_order, count_orders, list_count, list_end, list_schedule, list_surprises, worst_order
from buildroom.machines import least_end, schedule_end
from tests.helpers import STRANGE, fault
from tests.plan_models import list_end_model, list_model, some_plan

PLAN = ((3, (), 1), (2, (), 1), (2, (1,), 2), (4, (), 1))
JOB = (1, (), 0)
WITH_ORDER = (list_schedule, list_end, list_surprises)
WITHOUT = (worst_order, best_order, lambda plan, machines, room: list_count(plan, machines, room, 0))
NO_INTEGERS = tuple([value for value in STRANGE if not isinstance(value, int) or isinstance(value, bool)])


def orders(plan):
    return list(itertools.permutations(range(len(plan))))


def all_eased(plan, machines, room):
    """All changes by which less is asked, and what is asked then."""
    changes = {}
    for job, (length, needs, taken) in enumerate(plan):
        if length > 1:
            changes["length", job] = (plan[:job] + ((length - 1, needs, taken),) + plan[job + 1:], machines, room)
        for one in needs:
            left = tuple(sorted(set(needs) - {one}))
            changes["need", job, one] = (plan[:job] + ((length, left, taken),) + plan[job + 1:], machines, room)
    if machines < 4:
        changes["machine",] = (plan, machines + 1, room)
    if room < 99:
        changes["room",] = (plan, machines, room + 1)
    return changes


class ByAList(unittest.TestCase):
    def test_one_job(self):
        for length in (1, 99):
            self.assertEqual(list_schedule(((length, (), 9),), 4, 9, (0,)), ((0, 0),))
            self.assertEqual(list_end(((length, (), 9),), 1, 99, (0,)), length)

    def test_each_job_that_can_begins_though_one_ahead_of_it_waits(self):
        plan = ((5, (), 2), (5, (), 2), (1, (), 1), (1, (0,), 0))
        self.assertEqual(list_schedule(plan, 4, 3, (3, 0, 1, 2)), ((0, 0), (5, 0), (0, 1), (5, 1)))
        self.assertEqual(list_schedule(plan, 4, 3, (3, 2, 1, 0)), ((5, 0), (0, 0), (0, 1), (10, 0)))

    def test_machines_are_taken_by_the_lesser_of_those_that_begin_together(self):
        plan = ((2, (), 0), (1, (), 0), (3, (), 0))
        for order in orders(plan):
            self.assertEqual(list_schedule(plan, 4, 0, order), ((0, 0), (0, 1), (0, 2)))
        plan = ((2, (), 0), (2, (), 0), (3, (), 0), (3, (), 0))
        self.assertEqual(list_schedule(plan, 2, 0, (3, 1, 2, 0)), ((3, 1), (0, 0), (2, 0), (0, 1)))
        self.assertEqual(list_schedule(plan, 2, 0, (1, 0, 3, 2)), ((0, 0), (0, 1), (2, 0), (2, 1)))

    def test_jobs_begin_just_when_others_end(self):
        plan = ((2, (), 1), (3, (0,), 1), (1, (1,), 1))
        for order in orders(plan):
            self.assertEqual(list_schedule(plan, 4, 1, order), ((0, 0), (2, 0), (5, 0)))

    def test_they_begin_only_when_some_job_ends_or_at_0(self):
        plan = ((2, (), 0), (9, (), 1), (9, (0,), 1))
        self.assertEqual(list_schedule(plan, 4, 1, (2, 1, 0)), ((0, 0), (0, 1), (9, 0)))

    def test_rooms(self):
        plan = ((2, (), 9), (3, (), 0), (4, (), 9))
        self.assertEqual(list_end(plan, 4, 8, (0, 1, 2)), None)
        self.assertEqual(list_schedule(plan, 4, 0, (0, 1, 2)), None)
        self.assertEqual(list_schedule(plan, 4, 9, (0, 1, 2)), ((0, 0), (0, 1), (2, 0)))
        self.assertEqual(list_schedule(plan, 4, 18, (2, 0, 1)), ((0, 0), (0, 1), (0, 2)))
        self.assertEqual(list_end(((99, (), 0),) * 8, 1, 0, (7, 6, 5, 4, 3, 2, 1, 0)), 792)

    def test_against_each_unit_of_time(self):
        dice = random.Random(23)
        for _ in range(300):
            plan, machines, room = some_plan(dice, 6), dice.randint(1, 4), dice.randint(1, 6)
            order = tuple(dice.sample(range(len(plan)), len(plan)))
            with self.subTest(plan=plan, machines=machines, room=room, order=order):
                schedule = list_schedule(plan, machines, room, order)
                self.assertEqual(schedule, list_model(plan, machines, room, order))
                end = None if schedule is None else schedule_end(plan, machines, room, schedule)
                self.assertEqual(list_end(plan, machines, room, order), end)
                self.assertEqual(end is None, any(job[2] > room for job in plan))


class AllOrders(unittest.TestCase):
    def test_one_job(self):
        self.assertEqual([worst_order((JOB,), 1, 0), best_order((JOB,), 1, 0)], [(1, (0,))] * 2)
        self.assertEqual([list_count((JOB,), 1, 0, end) for end in (0, 1, 1000)], [0, 1, 1])

    def test_jobs_that_take_too_much(self):
        plan = ((1, (), 3), (1, (), 0))
        self.assertEqual([worst_order(plan, 1, 2), best_order(plan, 1, 2), list_count(plan, 1, 2, 1000)], [None, None, 0])
        self.assertEqual([worst_order(plan, 1, 3), best_order(plan, 1, 3), list_count(plan, 1, 3, 1000)],
                         [(2, (0, 1)), (2, (0, 1)), 2])

    def test_against_all_orders(self):
        dice = random.Random(231)
        apart = 0
        for number in range(160):
            plan, machines = some_plan(dice, 4 + number % 2, 6, 0.15), dice.randint(1, 3)
            room = dice.randint(2, 6)
            ends = {order: list_end_model(plan, machines, room, order) for order in orders(plan)}
            with self.subTest(plan=plan, machines=machines, room=room):
                if None in ends.values():
                    self.assertEqual([worst_order(plan, machines, room), best_order(plan, machines, room)], [None] * 2)
                    self.assertEqual(list_count(plan, machines, room, 1000), 0)
                    continue
                worst, best = max(ends.values()), min(ends.values())
                apart += worst > best
                self.assertEqual(worst_order(plan, machines, room),
                                 (worst, min(order for order in ends if ends[order] == worst)))
                self.assertEqual(best_order(plan, machines, room),
                                 (best, min(order for order in ends if ends[order] == best)))
                self.assertLessEqual(least_end(plan, machines, room), best)
                for end in (best - 1, best, worst - 1, worst, 1000):
                    self.assertEqual(list_count(plan, machines, room, end),
                                     len([order for order in ends if ends[order] <= end]))
        self.assertGreater(apart, 12)

    def test_six_and_seven_jobs(self):
        six, seven = PLAN + (JOB,) * 2, PLAN + (JOB,) * 3
        self.assertEqual(list_count(six, 2, 9, 1000), 720)
        self.assertEqual(worst_order(six, 2, 9)[0], max(list_end(six, 2, 9, order) for order in orders(six)))
        self.assertEqual(best_order(six, 2, 9)[0], min(list_end(six, 2, 9, order) for order in orders(six)))
        for plan in (seven, ((99, (), 9),) * 8):
            for room in (0, 9):
                for call in WITHOUT:
                    self.assertEqual(fault(call, plan, 1, room), (TooManyStates, {"most": 720}))

    def test_no_schedule_by_a_list_may_be_the_best(self):
        plan = ((1, (), 0), (5, (), 1), (10, (0,), 1), (10, (2,), 0))
        self.assertEqual([least_end(plan, 4, 1), best_order(plan, 4, 1)], [21, (25, (0, 1, 2, 3))])


class CountOrders(unittest.TestCase):
    def test_by_hand(self):
        for plan, many in (((JOB,), 1), ((JOB,) * 8, math.factorial(8)), (PLAN, 12),
                           (tuple([(1, (job - 1,) if job else (), 0) for job in range(8)]), 1),
                           (tuple([(1, tuple(range(job)), 0) for job in range(8)]), 1),
                           ((JOB,) * 7 + ((1, (0, 1, 2, 3, 4, 5, 6), 0),), math.factorial(7)),
                           ((JOB,) + ((1, (0,), 0),) * 7, math.factorial(7)), ((JOB, (1, (0,), 0)) * 1, 1)):
            self.assertEqual(count_orders(plan), many)

    def test_against_all_orders(self):
        dice = random.Random(232)
        for _ in range(80):
            plan = some_plan(dice, 6)
            right = [order for order in orders(plan)
                     if all(order.index(need) < order.index(job) for job in order for need in plan[job][1])]
            self.assertEqual(count_orders(plan), len(right))


class Surprises(unittest.TestCase):
    def test_of_each_kind(self):
        # With more room the second job begins ahead of the third one, and this one later.
        plan = ((1, (), 2), (1, (), 2), (2, (), 1))
        self.assertEqual([list_surprises(plan, 3, 3, (0, 1, 2)), list_end(plan, 3, 3, (0, 1, 2)),
                          list_end(plan, 3, 4, (0, 1, 2))], [[("room",)], 2, 3])
        # The job that no longer needs the first one takes the second machine.
        plan = ((1, (), 1), (1, (0,), 0), (2, (), 2))
        self.assertEqual(list_surprises(plan, 2, 3, (0, 1, 2)), [("need", 1, 0)])
        plan = ((3, (), 0), (2, (), 2), (2, (0,), 2), (3, (), 1), (3, (3,), 0))
        self.assertEqual(list_surprises(plan, 2, 2, (0, 1, 2, 3, 4)), [("length", 0), ("need", 2, 0)])
        plan = ((1, (), 0), (1, (), 0), (1, (1,), 2), (2, (0, 1, 2), 0), (4, (), 1))
        self.assertEqual([list_surprises(plan, 2, 2, (0, 1, 2, 3, 4)), list_end(plan, 2, 2, (0, 1, 2, 3, 4))],
                         [[("machine",)], 6])
        self.assertEqual(list_surprises(plan, 2, 2, (1, 0, 2, 3, 4)), [("machine",)])

    def test_none(self):
        for plan in ((JOB,), PLAN[:2], ((99, (), 9),) * 8):
            for machines in (1, 4):
                self.assertEqual(list_surprises(plan, machines, 99, tuple(range(len(plan)))), [])

    def test_against_all_changes(self):
        dice = random.Random(233)
        kinds = {}
        for number in range(1200):
            plan = some_plan(dice, 7, 6, 0.25, 3)
            machines, room = dice.randint(1, 4), dice.choice((dice.randint(2, 6), 98, 99))
            order = tuple(dice.sample(range(len(plan)), len(plan)))
            with self.subTest(plan=plan, machines=machines, room=room, order=order):
                found = list_surprises(plan, machines, room, order)
                if any(job[2] > room for job in plan):
                    self.assertEqual(found, [])
                    continue
                end = list_end(plan, machines, room, order)
                later = [change for change, works in all_eased(plan, machines, room).items()
                         if list_end(*works, order) > end]
                self.assertEqual(found, sorted(later))
                for change in found:
                    kinds[change[0]] = kinds.get(change[0], 0) + 1
        self.assertEqual(sorted(kinds), ["length", "machine", "need", "room"])

    def test_none_if_some_job_takes_too_much(self):
        self.assertEqual(list_surprises(((5, (), 2), (5, (), 1)), 1, 1, (0, 1)), [])

    def test_just_one_machine_more(self):
        # By the first plan the list ends later with one machine more, but not with two; by the second one just so.
        plan = ((1, (), 0), (2, (), 1), (3, (), 2), (3, (), 2), (2, (), 1), (1, (0, 2, 3), 0))
        order = (0, 1, 2, 3, 4, 5)
        self.assertEqual([list_end(plan, machines, 4, order) for machines in (2, 3, 4)], [6, 7, 6])
        self.assertIn(("machine",), list_surprises(plan, 2, 4, order))
        plan = ((2, (), 0), (3, (), 1), (3, (0,), 2), (2, (), 0), (4, (2, 3), 0), (3, (), 2), (2, (4,), 1))
        order = (0, 1, 2, 3, 4, 5, 6)
        self.assertEqual([list_end(plan, machines, 4, order) for machines in (2, 3, 4)], [11, 11, 12])
        self.assertNotIn(("machine",), list_surprises(plan, 2, 4, order))
        self.assertIn(("machine",), list_surprises(plan, 3, 4, order))

    def test_no_machine_behind_the_fourth(self):
        # With a fifth machine the last job would begin a moment later; but there are at most four.
        plan = ((1, (), 0), (5, (), 1), (3, (), 2), (5, (0,), 1), (5, (), 0), (2, (), 1), (2, (1, 3, 4), 1))
        order = (0, 1, 2, 3, 4, 5, 6)
        self.assertEqual([list_end(plan, machines, 4, order) for machines in (1, 2, 3, 4)], [23, 12, 10, 8])
        self.assertNotIn(("machine",), list_surprises(plan, 4, 4, order))

    def test_no_room_behind_the_last(self):
        plan = tuple([(job + 1, (), 9) for job in range(8)])
        for room in (98, 99):
            self.assertEqual(list_surprises(plan, 4, room, (0, 1, 2, 3, 4, 5, 6, 7)),
                             list_surprises(plan, 4, 72, (0, 1, 2, 3, 4, 5, 6, 7)))

class Wrong(unittest.TestCase):
    def test_plans(self):
        for value in STRANGE + ("", (), [JOB], (JOB,) * 9, {0: JOB}):
            index = 0 if isinstance(value, tuple) and 1 <= len(value) <= 8 else None
            with self.subTest(value=value):
                for call in WITH_ORDER:
                    self.assertEqual(fault(call, value, None, None, None), (BadPlan, {"index": index}))
                for call in WITHOUT:
                    self.assertEqual(fault(call, value, None, None), (BadPlan, {"index": index}))
                self.assertEqual(fault(list_count, value, None, None, None), (BadPlan, {"index": index}))
                self.assertEqual(fault(count_orders, value), (BadPlan, {"index": index}))
        self.assertEqual(fault(count_orders, (JOB, (1, (1,), 0))), (BadPlan, {"index": 1}))

    def test_machines_and_room(self):
        for value in NO_INTEGERS + (0, 5, -1, 10 ** 40):
            for call in WITH_ORDER:
                self.assertEqual(fault(call, PLAN, value, None, None), (BadMachines, {}))
            for call in WITHOUT:
                self.assertEqual(fault(call, (JOB,) * 8, value, None), (BadMachines, {}))
        for value in NO_INTEGERS + (-1, 100, 10 ** 40):
            for call in WITH_ORDER:
                self.assertEqual(fault(call, PLAN, 1, value, None), (BadRoom, {}))
            for call in WITHOUT:
                self.assertEqual(fault(call, (JOB,) * 8, 1, value), (BadRoom, {}))

    def test_orders(self):
        wrong = STRANGE + ("", (), "0123", [0, 1, 2, 3], (0, 1, 2), (0, 1, 2, 3, 3), (0, 1, 2, 2), (0, 1, 2, 4),
                           (1, 2, 3, 4), (0, -1, 2, 3), (0, True, 2, 3), (False, 1, 2, 3), ("0", "1", "2", "3"),
                           ((0, 1, 2, 3),), (0, 1, 2, None), {0: 0, 1: 1, 2: 2, 3: 3}, (0, 1, 2, [3]), range(4))
        for value in wrong:
            with self.subTest(value=value):
                for call in WITH_ORDER:
                    self.assertEqual(fault(call, PLAN, 1, 0, value), (BadOrder, {}))
                    self.assertEqual(fault(call, PLAN, 1, 9, value), (BadOrder, {}))
        for order in orders(PLAN):
            for call in WITH_ORDER:
                self.assertEqual(fault(call, PLAN, 1, 0, order)[0], "returned")

    def test_ends(self):
        for value in NO_INTEGERS + (-1, 1001, 10 ** 40):
            self.assertEqual(fault(list_count, PLAN, 1, 0, value), (BadLength, {}))
            self.assertEqual(fault(list_count, (JOB,) * 7, 1, 0, value), (BadLength, {}))
        for value in (0, 1000):
            self.assertEqual(fault(list_count, PLAN, 1, 0, value), ("returned", 0))


if __name__ == "__main__":
    unittest.main()
