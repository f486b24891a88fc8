"""Slots, which jobs keep from when they are started until they end, and how they get stuck for want of them.

How a plan stands is a tuple of what has become of each job: it is left, it keeps a slot, or it is done.
"""

from buildroom.counts import is_from_to
from buildroom.errors import BadSlots, BadState
from buildroom.plans import are_jobs, check_plan

MOST_SLOTS = 8
LEFT = 0
KEPT = 1
DONE = 2


def stuck_row(plan, slots):
    """The least of the shortest tuples of moves behind which it is stuck, None if there is none."""
    check_plan(plan)
    check_slots(slots)
    for standing, row in shortest_rows(plan, slots).items():
        if is_stuck(plan, slots, standing):
            return row
    return None


def never_stuck(plan, slots):
    """Whether it is never stuck, whatever is moved."""
    return stuck_row(plan, slots) is None


def count_stuck(plan, slots):
    """The number of states that can be come to in which it is stuck."""
    check_plan(plan)
    check_slots(slots)
    return len([standing for standing in shortest_rows(plan, slots) if is_stuck(plan, slots, standing)])


def fewest_slots(plan):
    """The least number of slots with which it is never stuck."""
    slots = 1
    while not never_stuck(plan, slots):
        slots += 1
    return slots


def safe_starts(plan, slots, done, held):
    """The jobs, ascending, that can be started in a state so that all can still end."""
    check_plan(plan)
    check_slots(slots)
    check_state(plan, slots, done, held)
    standing = tuple([standing_of(job, done, held) for job in range(len(plan))])
    started = [job for word, job in moves_from(plan, slots, standing) if word == "start"]
    # Where a slot is free, the first job that is not done can end; where none is, each move frees one. So all can end
    # unless it is stuck.
    return [job for job in started if not is_stuck(plan, slots, moved(standing, ("start", job)))]


def shortest_rows(plan, slots):
    """For each state that can be come to the least of the shortest rows of moves to it; in the order of these rows."""
    start = tuple([LEFT for _ in plan])
    rows, states = {start: ()}, [start]
    while states:
        behind = []
        for standing in states:
            for move in moves_from(plan, slots, standing):
                then = moved(standing, move)
                if then not in rows:
                    rows[then] = rows[standing] + (move,)
                    behind.append(then)
        states = behind
    return rows


def moves_from(plan, slots, standing):
    """The moves, ascending, that there are in a state."""
    kept = [job for job, stands in enumerate(standing) if stands == KEPT]
    moves = [("end", job) for job in kept if all([standing[need] == DONE for need in plan[job][1]])]
    if len(kept) < slots:
        moves.extend([("start", job) for job, stands in enumerate(standing) if stands == LEFT])
    return moves


def moved(standing, move):
    """The state behind a move."""
    word, job = move
    return standing[:job] + (KEPT if word == "start" else DONE,) + standing[job + 1:]


def is_stuck(plan, slots, standing):
    """Whether there is no move in a state, though not all jobs have ended."""
    return any([stands != DONE for stands in standing]) and moves_from(plan, slots, standing) == []


def standing_of(job, done, held):
    """What has become of a job in a state."""
    if job in done:
        return DONE
    return KEPT if job in held else LEFT


def check_slots(value):
    """Raise an error for any value that is no number of slots."""
    if not is_from_to(value, 1, MOST_SLOTS):
        raise BadSlots()


def check_state(plan, slots, done, held):
    """Raise an error for any values of what is done, and of what keeps slots, that are no state."""
    if not are_jobs(done, len(plan)) or not are_jobs(held, len(plan)) or len(held) > slots:
        raise BadState()
    if any([job in done for job in held]) or not all([need in done for job in done for need in plan[job][1]]):
        raise BadState()
