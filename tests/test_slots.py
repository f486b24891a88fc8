"""Point 24: slots, moves, and where these get stuck."""

import itertools
import random
import unittest

from buildroom.errors import BadPlan, BadSlots, BadState
from buildroom.slots import count_stuck, fewest_slots, never_stuck, safe_starts, stuck_row
from tests.helpers import STRANGE, fault
from tests.plan_models import (can_end_model, moved_model, moves_model, some_plan, states_model, stuck_model,
                               stuck_row_model)

JOB = (1, (), 0)
# Each job of a chain needs all ahead of it.
CHAIN = tuple([(1, tuple(range(job)), 0) for job in range(8)])
NO_INTEGERS = tuple([value for value in STRANGE if not isinstance(value, int) or isinstance(value, bool)])


def start(*jobs):
    return tuple([("start", job) for job in jobs])


class Stuck(unittest.TestCase):
    def test_one_job(self):
        for slots in (1, 8):
            self.assertEqual([stuck_row((JOB,), slots), never_stuck((JOB,), slots), count_stuck((JOB,), slots)],
                             [None, True, 0])
        self.assertEqual(fewest_slots((JOB,)), 1)

    def test_chains(self):
        for many in range(2, 9):
            plan = CHAIN[:many]
            self.assertEqual(fewest_slots(plan), many)
            for slots in range(1, 9):
                self.assertEqual(stuck_row(plan, slots), start(*range(1, slots + 1)) if slots < many else None)
                self.assertIs(never_stuck(plan, slots), slots >= many)
                self.assertEqual(count_stuck(plan, slots) > 0, slots < many)

    def test_eight_jobs_that_need_nothing(self):
        for slots in (1, 2, 8):
            self.assertEqual([stuck_row((JOB,) * 8, slots), never_stuck((JOB,) * 8, slots), count_stuck((JOB,) * 8, slots)],
                             [None, True, 0])
        self.assertEqual(fewest_slots((JOB,) * 8), 1)

    def test_rows_in_which_jobs_end_ahead(self):
        # With two slots, it is stuck only if two jobs that need others keep them.
        plan = (JOB, JOB, (1, (0,), 0), (1, (1,), 0))
        self.assertEqual([stuck_row(plan, 1), stuck_row(plan, 2), stuck_row(plan, 3)], [start(2), start(2, 3), None])
        self.assertEqual([count_stuck(plan, 1), count_stuck(plan, 2), fewest_slots(plan)], [6, 1, 3])

    def test_an_end_stands_ahead_of_a_start(self):
        plan = (JOB, (1, (0,), 0), (1, (0, 1), 0))
        self.assertEqual(stuck_row(plan, 1), start(1))
        self.assertEqual(count_stuck(plan, 2), 1)

    def test_lengths_and_room_are_of_no_matter(self):
        plan = ((99, (), 9), (1, (0,), 9), (50, (0, 1), 0))
        self.assertEqual([stuck_row(plan, 1), fewest_slots(plan), count_stuck(plan, 1)], [start(1), 3, 3])

    def test_against_all_rows_of_moves(self):
        dice = random.Random(24)
        for _ in range(40):
            plan = some_plan(dice, 4, needy=0.5)
            for slots in (1, 2, 3):
                self.assertEqual(stuck_row(plan, slots), stuck_row_model(plan, slots), (plan, slots))

    def test_against_all_states(self):
        dice = random.Random(241)
        found = {}
        for _ in range(60):
            plan = some_plan(dice, 6, needy=dice.choice((0.2, 0.5)))
            never = []
            for slots in range(1, 9):
                states = states_model(plan, slots)
                stuck = [state for state in states if stuck_model(plan, slots, *state)]
                self.assertEqual(count_stuck(plan, slots), len(stuck))
                self.assertIs(never_stuck(plan, slots), not stuck)
                row = stuck_row(plan, slots)
                self.assertEqual(row is None, not stuck)
                if row is not None:
                    state = (frozenset(), frozenset())
                    for move in row:
                        self.assertIn(move, moves_model(plan, slots, *state))
                        state = moved_model(*state, move)
                    self.assertIn(state, stuck)
                never += [slots] if not stuck else []
                found[bool(stuck)] = True
            self.assertEqual(fewest_slots(plan), never[0])
            self.assertLessEqual(fewest_slots(plan), len(plan))
        self.assertEqual(len(found), 2)


class SafeStarts(unittest.TestCase):
    def test_at_the_beginning_and_at_the_end(self):
        self.assertEqual([safe_starts(CHAIN, slots, (), ()) for slots in (1, 2, 8)],
                         [[0], [0, 1, 2, 3, 4, 5, 6, 7], [0, 1, 2, 3, 4, 5, 6, 7]])
        self.assertEqual(safe_starts(CHAIN, 8, tuple(range(8)), ()), [])
        self.assertEqual(safe_starts(CHAIN, 1, tuple(range(7)), ()), [7])

    def test_where_no_slot_is_free(self):
        plan = (JOB, JOB, (1, (0,), 0))
        self.assertEqual([safe_starts(plan, 1, (), (0,)), safe_starts(plan, 1, (), (2,)),
                          safe_starts(plan, 2, (), (0, 1))], [[], [], []])

    def test_one_that_keeps_a_slot_and_can_end_lets_others_start(self):
        plan = (JOB, JOB, (1, (0,), 0), (1, (2,), 0))
        self.assertEqual(safe_starts(plan, 2, (), (3,)), [0, 1])
        self.assertEqual(safe_starts(plan, 2, (), (1,)), [0, 2, 3])
        self.assertEqual(safe_starts(plan, 2, (0,), (3,)), [1, 2])

    def test_a_state_in_which_it_is_stuck(self):
        plan = (JOB, (1, (0,), 0), (1, (1,), 0))
        self.assertEqual(safe_starts(plan, 2, (), (1, 2)), [])
        self.assertEqual(safe_starts(plan, 3, (), (1, 2)), [0])

    def test_any_state_is_taken_whether_it_can_be_come_to_or_not(self):
        plan = ((1, (), 0), (1, (0,), 0), (1, (0, 1), 0))
        for slots, done, held, safe in ((8, (0, 1, 2), (), []), (1, (0,), (2,), []), (2, (0,), (2,), [1]),
                                        (1, (0, 1), (2,), []), (3, (0,), (1,), [2]), (1, (0,), (), [1])):
            self.assertEqual(safe_starts(plan, slots, done, held), safe)

    def test_against_all_rows_of_moves(self):
        dice = random.Random(242)
        for _ in range(25):
            plan = some_plan(dice, 4, needy=0.5)
            jobs = range(len(plan))
            for slots, words in itertools.product((1, 2, 3), itertools.product("dhl", repeat=len(plan))):
                done, held = [frozenset([job for job in jobs if words[job] == word]) for word in "dh"]
                call = (plan, slots, tuple(sorted(done)), tuple(sorted(held)))
                if len(held) > slots or any(not set(plan[job][1]) <= done for job in done):
                    self.assertEqual(fault(safe_starts, *call), (BadState, {}))
                    continue
                moves = [job for word, job in moves_model(plan, slots, done, held) if word == "start"]
                self.assertEqual(safe_starts(*call),
                                 [job for job in moves if can_end_model(plan, slots, done, held | {job})], call)


class Wrong(unittest.TestCase):
    def test_plans(self):
        for value in STRANGE + ("", (), [JOB], (JOB,) * 9, {0: JOB}):
            index = 0 if isinstance(value, tuple) and 1 <= len(value) <= 8 else None
            with self.subTest(value=value):
                for call in (stuck_row, never_stuck, count_stuck):
                    self.assertEqual(fault(call, value, None), (BadPlan, {"index": index}))
                self.assertEqual(fault(fewest_slots, value), (BadPlan, {"index": index}))
                self.assertEqual(fault(safe_starts, value, None, None, None), (BadPlan, {"index": index}))
        self.assertEqual(fault(fewest_slots, (JOB, (0, (), 0))), (BadPlan, {"index": 1}))

    def test_slots(self):
        for value in NO_INTEGERS + (0, 9, -1, 10 ** 40):
            for call in (stuck_row, never_stuck, count_stuck):
                self.assertEqual(fault(call, (JOB,), value), (BadSlots, {}))
            self.assertEqual(fault(safe_starts, (JOB,), value, None, None), (BadSlots, {}))

    def test_states(self):
        plan = (JOB, (1, (0,), 0), JOB)
        wrong = [value for value in STRANGE + ("", [], [0], (3,), (-1,), (True,), (False,), ("0",), ((0,),), (0, None),
                                               (2, 0), (0, 0), {0: 0}, range(1), (0, [2]))]
        for value in wrong:
            with self.subTest(value=value):
                self.assertEqual(fault(safe_starts, plan, 3, value, ()), (BadState, {}))
                self.assertEqual(fault(safe_starts, plan, 3, (), value), (BadState, {}))
                self.assertEqual(fault(safe_starts, plan, 3, value, value), (BadState, {}))
        for done, held in (((0,), (0,)), ((0, 2), (1, 2)), ((1,), ()), ((1, 2), (0,)), ((), (0, 1, 2))):
            self.assertEqual(fault(safe_starts, plan, 2, done, held), (BadState, {}))
        for done, held in (((), ()), ((0, 1, 2), ()), ((0, 1), (2,)), ((), (0, 1)), ((), (1, 2)), ((2,), (1,))):
            self.assertEqual(fault(safe_starts, plan, 2, done, held)[0], "returned")


if __name__ == "__main__":
    unittest.main()
