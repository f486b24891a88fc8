"""Plans of jobs, and what is passed beside them: machines, their room, and ends; the checks of these."""

from buildroom.counts import are_ascending, is_from_to
from buildroom.errors import BadLength, BadMachines, BadPlan, BadRoom

MOST_JOBS = 8
LONGEST_JOB = 99
MOST_TAKEN = 9
MOST_MACHINES = 4
MOST_ROOM = 99
LAST_END = 1000


def takes_too_much(plan, room):
    """Whether some job takes more room than there is."""
    return any([job[2] > room for job in plan])


def room_of(plan, jobs):
    """The room that some jobs take together."""
    return sum([plan[job][2] for job in jobs])


def with_machines(plan, machines, begins):
    """The schedule of a list of begins: jobs in the order of these, of several the lesser one first, take machines.

    Each takes the least machine that is free.
    """
    free_from, chosen = [0] * machines, {}
    for begin, job in sorted([(begin, job) for job, begin in enumerate(begins)]):
        machine = [one for one, moment in enumerate(free_from) if moment <= begin][0]
        free_from[machine] = begin + plan[job][0]
        chosen[job] = machine
    return tuple([(begin, chosen[job]) for job, begin in enumerate(begins)])


def are_jobs(value, many):
    """Whether any value is an ascending tuple of some of so many jobs."""
    if not isinstance(value, tuple) or not all([is_from_to(thing, 0, many - 1) for thing in value]):
        return False
    return are_ascending(value)


def is_job(value, index):
    """Whether any value is a job that stands in a plan behind so many others."""
    if not isinstance(value, tuple) or len(value) != 3:
        return False
    length, needs, taken = value
    return is_from_to(length, 1, LONGEST_JOB) and are_jobs(needs, index) and is_from_to(taken, 0, MOST_TAKEN)


def check_plan(value):
    """Raise an error for any value that is no plan."""
    if not isinstance(value, tuple) or not 1 <= len(value) <= MOST_JOBS:
        raise BadPlan(None)
    for index, thing in enumerate(value):
        if not is_job(thing, index):
            raise BadPlan(index)


def check_room(value):
    """Raise an error for any value that is no room of machines."""
    if not is_from_to(value, 0, MOST_ROOM):
        raise BadRoom()


def check_end(value):
    """Raise an error for any value that is no end to be kept to."""
    if not is_from_to(value, 0, LAST_END):
        raise BadLength()


def check_works(plan, machines, room):
    """Raise an error for wrong values of a plan, of a number of machines, and of their room."""
    check_plan(plan)
    if not is_from_to(machines, 1, MOST_MACHINES):
        raise BadMachines()
    check_room(room)
