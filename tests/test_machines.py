"""Point 22: plans, schedules, their least ends, and the ends below which none can be."""

import itertools
import random
import unittest

from buildroom.errors import BadLength, BadMachines, BadPlan, BadRoom
from buildroom.machines import best_schedule, least_end, least_machines, plan_bounds, schedule_end
from tests.helpers import STRANGE, fault
from tests.plan_models import least_end_by_begins, least_end_by_orders, schedule_model, some_plan

PLAN = ((3, (), 1), (2, (), 1), (2, (1,), 2), (4, (), 1))
JOB = (1, (), 0)
CALLS = (
    ("schedule_end", lambda plan, machines, room: schedule_end(plan, machines, room, ((0, 0),))),
    ("least_end", least_end), ("best_schedule", best_schedule), ("plan_bounds", plan_bounds),
)
NO_INTEGERS = tuple([value for value in STRANGE if not isinstance(value, int) or isinstance(value, bool)])


class Schedules(unittest.TestCase):
    def test_jobs_run_from_their_begins(self):
        self.assertEqual(schedule_end(PLAN, 2, 9, ((0, 0), (0, 1), (2, 1), (4, 0))), 8)
        self.assertEqual(schedule_end(PLAN, 2, 9, ((5, 1), (100, 1), (102, 1), (0, 0))), 104)
        self.assertEqual(schedule_end((JOB,), 1, 0, ((0, 0),)), 1)

    def test_two_on_one_machine(self):
        plan = ((3, (), 0), (2, (), 0))
        for one, other, right in ((0, 0, False), (0, 2, False), (0, 3, True), (2, 0, True), (1, 0, False), (7, 7, False)):
            for first, second in ((0, 0), (1, 1)):
                end = max(one + 3, other + 2) if right else None
                self.assertEqual(schedule_end(plan, 2, 9, ((one, first), (other, second))), end)
                self.assertEqual(schedule_end(plan, 2, 9, ((one, first), (other, 1 - second))), max(one + 3, other + 2))

    def test_three_on_a_machine_with_a_gap(self):
        plan = ((9, (), 0), (1, (), 0), (1, (), 0))
        self.assertEqual(schedule_end(plan, 2, 0, ((0, 0), (3, 1), (8, 0))), None)
        self.assertEqual(schedule_end(plan, 2, 0, ((0, 0), (3, 1), (9, 0))), 10)

    def test_needs_have_ended(self):
        plan = ((3, (), 0), (5, (), 0), (1, (0, 1), 0))
        for begin, end in ((0, None), (3, None), (4, None), (5, 6), (6, 7)):
            self.assertEqual(schedule_end(plan, 3, 0, ((0, 0), (0, 1), (begin, 2))), end)

    def test_no_need_at_all_of_the_order(self):
        self.assertEqual(schedule_end(((1, (), 0), (1, (), 0)), 1, 0, ((1, 0), (0, 0))), 2)

    def test_room(self):
        plan = ((3, (), 4), (3, (), 5), (3, (), 1))
        for room, begins, end in ((9, (0, 0, 3), 6), (8, (0, 0, 3), None), (9, (0, 0, 2), None), (10, (0, 0, 0), 3),
                                  (9, (0, 0, 0), None), (5, (0, 3, 0), 6), (5, (0, 3, 6), 9), (6, (0, 3, 5), 8),
                                  (5, (0, 3, 5), None), (5, (3, 0, 3), 6), (4, (3, 0, 6), None)):
            self.assertEqual(schedule_end(plan, 3, room, tuple([(begin, at) for at, begin in enumerate(begins)])), end)

    def test_jobs_without_room_take_none(self):
        self.assertEqual(schedule_end(((5, (), 0),) * 4, 4, 0, ((0, 3), (0, 2), (0, 1), (0, 0))), 5)

    def test_begins_and_machines(self):
        for machines in (1, 4):
            for begin, machine, end in ((0, 0, 99), (10 ** 6, machines - 1, 10 ** 6 + 99), (10 ** 6 + 1, 0, None),
                                        (-1, 0, None), (0, machines, None), (0, -1, None), (True, 0, None),
                                        (0, False, None), ("0", 0, None), (0, None, None), ((0,), 0, None)):
                self.assertEqual(schedule_end(((99, (), 0),), machines, 0, ((begin, machine),)), end)

    def test_any_value(self):
        right = ((0, 0), (0, 1), (2, 1), (3, 0))
        self.assertEqual(schedule_end(PLAN, 2, 9, right), 7)
        wrong = ("", (), list(right), right[:3], right + right[:1], dict(right), [list(pair) for pair in right],
                 tuple([list(pair) for pair in right]), (None,) * 4, right[:3] + ((3,),), right[:3] + ((3, 0, 0),),
                 right[:3] + ("30",), right[:3] + ({3: 0, 0: 0},), right[:3] + ([3, 0],), (0, 0, 2, 3))
        for value in STRANGE + wrong:
            with self.subTest(value=value):
                self.assertIsNone(schedule_end(PLAN, 2, 9, value))

    def test_each_of_several_jobs_counts(self):
        plan, right = ((9, (), 0),) * 3, ((0, 0), (0, 1), (0, 2))
        self.assertEqual(schedule_end(plan, 3, 0, right), 9)
        for at in range(3):
            for begin, machine in ((-1, at), (10 ** 6 + 1, at), (0, 3), (0, -1), ("0", at), (0, None)):
                self.assertIsNone(schedule_end(plan, 3, 0, right[:at] + ((begin, machine),) + right[at + 1:]))

    def test_against_each_unit_of_time(self):
        dice = random.Random(22)
        found = {}
        for _ in range(3000):
            plan, machines, room = some_plan(dice, 4, 3), dice.randint(1, 4), dice.randint(0, 6)
            schedule = tuple([(dice.randint(0, 7), dice.randrange(machines)) for _ in plan])
            end = schedule_model(plan, machines, room, schedule)
            self.assertEqual(schedule_end(plan, machines, room, schedule), end, (plan, machines, room, schedule))
            found[len(plan), end is None] = found.get((len(plan), end is None), 0) + 1
        self.assertGreater(min(found.values()), 20)
        self.assertEqual(len(found), 8)


class LeastEnds(unittest.TestCase):
    def hold(self, plan, machines, room, end):
        self.assertEqual(least_end(plan, machines, room), end, (plan, machines, room))
        best = best_schedule(plan, machines, room)
        if end is None:
            self.assertIsNone(best)
        else:
            self.assertIsInstance(best, tuple)
            self.assertEqual(schedule_end(plan, machines, room, best), end)
            self.assertEqual(schedule_model(plan, machines, room, best), end)

    def test_one_job(self):
        for length in (1, 99):
            for machines in (1, 4):
                self.hold(((length, (), 9),), machines, 9, length)
                self.hold(((length, (), 9),), machines, 99, length)
                self.hold(((length, (), 9),), machines, 8, None)
                self.hold(((length, (), 0),), machines, 0, length)

    def test_eight_jobs(self):
        self.hold(((99, (), 9),) * 8, 4, 99, 198)
        self.hold(((99, (), 9),) * 8, 4, 35, 297)
        self.hold(((99, (), 9),) * 8, 4, 9, 792)
        self.hold(((99, (), 9),) * 8, 1, 99, 792)
        self.hold(tuple([(9 - job, (), 0) for job in range(8)]), 2, 0, 22)
        self.hold(tuple([(job + 2, (job - 1,) if job else (), 0) for job in range(8)]), 4, 0, 44)

    def test_a_job_that_waits_though_it_could_begin(self):
        # Job 1 could begin at 0, but then job 2, on which all hangs, could not begin at 1: the end would be 25.
        plan = ((1, (), 0), (5, (), 1), (10, (0,), 1), (10, (2,), 0))
        self.hold(plan, 4, 1, 21)

    def test_on_one_machine(self):
        dice = random.Random(220)
        for _ in range(100):
            plan = some_plan(dice, 8, 99)
            self.hold(plan, 1, 3, sum(length for length, _, _ in plan))

    def test_against_all_begins(self):
        dice = random.Random(221)
        for _ in range(120):
            plan, machines, room = some_plan(dice, 3, 3), dice.randint(1, 3), dice.randint(1, 5)
            self.hold(plan, machines, room, least_end_by_begins(plan, machines, room))

    def test_against_all_orders(self):
        dice = random.Random(222)
        for number in range(150):
            plan, machines = some_plan(dice, 5, 6, dice.choice((0, 0.2, 0.5)), 4), dice.randint(1, 4)
            room = dice.randint(2, 8)
            self.hold(plan, machines, room, least_end_by_orders(plan, machines, room))

    def test_large_plans_against_all_orders(self):
        dice = random.Random(223)
        for _ in range(3):
            plan = tuple([(dice.randint(1, 4), (), dice.randint(1, 4)) for _ in range(6)])
            self.hold(plan, 3, 6, least_end_by_orders(plan, 3, 6))


class Bounds(unittest.TestCase):
    def test_ways(self):
        for plan, way in ((((5, (), 0),), 5), (((5, (), 0), (3, (0,), 0), (4, (0,), 0), (1, (1, 2), 0)), 10),
                          (((1, (), 0), (1, (), 0), (1, (), 0)), 1),
                          (tuple([(99, (job - 1,) if job else (), 9) for job in range(8)]), 792),
                          (((2, (), 0), (9, (), 0), (8, (0,), 0)), 10), (((9, (), 0), (2, (), 0)), 9)):
            self.assertEqual(plan_bounds(plan, 4, 99)[0], way)

    def test_lengths_together(self):
        plan = ((3, (), 0), (3, (), 0), (4, (), 0))
        self.assertEqual([plan_bounds(plan, machines, 0)[1] for machines in (1, 2, 3, 4)], [10, 5, 4, 3])

    def test_room(self):
        plan = ((3, (), 2), (3, (), 0), (4, (), 3))
        self.assertEqual([plan_bounds(plan, 1, room)[2] for room in (0, 2, 3, 4, 5, 9, 17, 18, 99)],
                         [None, None, 6, 5, 4, 2, 2, 1, 1])
        self.assertEqual(plan_bounds(((5, (), 0),), 1, 0), (5, 5, 0))
        self.assertEqual(plan_bounds(((5, (), 0),), 1, 1), (5, 5, 0))
        self.assertEqual(plan_bounds(((5, (), 1),), 1, 0), (5, 5, None))
        self.assertEqual(plan_bounds(((5, (), 1), (3, (), 1), (9, (), 0)), 4, 1), (9, 5, 8))

    def test_no_end_is_below(self):
        dice = random.Random(224)
        for _ in range(100):
            plan, machines, room = some_plan(dice, 6, 9), dice.randint(1, 4), dice.randint(0, 6)
            bounds, end = plan_bounds(plan, machines, room), least_end(plan, machines, room)
            self.assertEqual(bounds[2] is None, end is None)
            if end is not None:
                self.assertGreaterEqual(end, max(bounds))


class LeastMachines(unittest.TestCase):
    def test_however_many(self):
        eight = ((99, (), 0),) * 8
        for end, many in ((98, None), (99, 8), (197, 8), (198, 4), (296, 4), (297, 3), (396, 2), (791, 2), (792, 1),
                          (1000, 1), (0, None)):
            self.assertEqual(least_machines(eight, 0, end), many)
        self.assertEqual(least_machines(((1, (), 0),) * 5, 0, 1), 5)

    def test_needs_and_room(self):
        self.assertEqual([least_machines(PLAN, 9, end) for end in (3, 4, 5, 6, 10, 11)], [None, 3, 3, 2, 2, 1])
        self.assertEqual([least_machines(PLAN, 2, end) for end in (5, 6, 7, 10, 11)], [None, None, 2, 2, 1])
        self.assertEqual([least_machines(PLAN, 1, end) for end in (0, 11, 1000)], [None] * 3)

    def test_against_least_ends(self):
        dice = random.Random(225)
        for _ in range(60):
            plan, room, end = some_plan(dice, 4, 4), dice.randint(1, 6), dice.randint(0, 12)
            right = [many for many in (1, 2, 3, 4) if (least_end(plan, many, room) or 10 ** 6) <= end]
            self.assertEqual(least_machines(plan, room, end), right[0] if right else None)


class Wrong(unittest.TestCase):
    def test_plans(self):
        for value in STRANGE + ("", (), [JOB], (JOB,) * 9, (None,) * 9, {0: JOB}, JOB):
            index = 0 if isinstance(value, tuple) and 1 <= len(value) <= 8 else None
            with self.subTest(value=value):
                for _, call in CALLS:
                    self.assertEqual(fault(call, value, None, None), (BadPlan, {"index": index}))
                self.assertEqual(fault(least_machines, value, None, None), (BadPlan, {"index": index}))

    def test_jobs(self):
        wrong = STRANGE + ((), [1, (), 0], (1, ()), (1, (), 0, 0), (0, (), 0), (100, (), 0), (-1, (), 0), (True, (), 0),
                           ("1", (), 0), (1, (), -1), (1, (), 10), (1, (), False), (1, (), None), (1, [], 0), (1, 0, 0),
                           (1, None, 0), (1, (2,), 0), (1, (-1,), 0), (1, (1, 0), 0), (1, (0, 0), 0), (1, (False,), 0),
                           (1, (True,), 0), (1, ("0",), 0), (1, (0, 1, 2), 0), (1, ((0,),), 0), (1, {0: 0}, 0),
                           (None, None, None))
        for thing in wrong:
            with self.subTest(thing=thing):
                for _, call in CALLS:
                    self.assertEqual(fault(call, (JOB, JOB, thing, None), 1, 0), (BadPlan, {"index": 2}))
                self.assertEqual(fault(least_machines, (JOB,) * 2 + (thing,), 0, 0), (BadPlan, {"index": 2}))
        self.assertEqual(fault(least_end, ((1, (0,), 0),), 1, 0), (BadPlan, {"index": 0}))
        for job in ((1, (), 0), (99, (), 9), (1, (0,), 0), (1, (1,), 0), (1, (0, 1), 0)):
            for _, call in CALLS:
                self.assertEqual(fault(call, (JOB, JOB, job), 1, 99)[0], "returned")

    def test_machines_and_room(self):
        for value in NO_INTEGERS + (0, 5, -1, 10 ** 40, "", "1", (1,)):
            for _, call in CALLS:
                self.assertEqual(fault(call, (JOB,), value, None), (BadMachines, {}))
        for value in NO_INTEGERS + (-1, 100, 10 ** 40, "", "1", (1,)):
            for _, call in CALLS:
                self.assertEqual(fault(call, (JOB,), 1, value), (BadRoom, {}))
            self.assertEqual(fault(least_machines, (JOB,), value, None), (BadRoom, {}))
        for machines, room in itertools.product((1, 4), (0, 99)):
            for name, call in CALLS:
                self.assertEqual(fault(call, (JOB,), machines, room)[0], "returned", name)

    def test_ends(self):
        for value in NO_INTEGERS + (-1, 1001, 10 ** 40, "", "1", (1,)):
            self.assertEqual(fault(least_machines, (JOB,), 0, value), (BadLength, {}))
        for value in (0, 1, 1000):
            self.assertEqual(fault(least_machines, (JOB,), 0, value), ("returned", 1 if value else None))

    def test_which_error_comes_first(self):
        self.assertEqual(fault(least_end, (JOB, 0), 0, -1), (BadPlan, {"index": 1}))
        self.assertEqual(fault(least_end, (JOB,), 0, -1), (BadMachines, {}))
        self.assertEqual(fault(least_machines, (JOB, 0), -1, -1), (BadPlan, {"index": 1}))
        self.assertEqual(fault(least_machines, ((1, (), 9),), -1, -1), (BadRoom, {}))
        self.assertEqual(fault(least_machines, ((1, (), 9),), 8, -1), (BadLength, {}))


if __name__ == "__main__":
    unittest.main()
