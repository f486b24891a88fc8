"""Machines that run the jobs of a plan: schedules, the least ends of these, and what none can be below."""

from buildroom.counts import is_from_to
from buildroom.plans import check_end, check_plan, check_room, check_works, room_of, takes_too_much, with_machines

LAST_BEGIN = 1000000


class Search:
    """Goes through the schedules whose jobs begin one behind the other, each as early as it then can.

    One of these has the least end: if the jobs of any schedule are begun so in the order of their begins, none of them
    begins later than it did.
    """

    def __init__(self, plan, machines, room):
        self.plan = plan
        self.machines = machines
        self.room = room
        self.found = {}

    def best(self, waiting, running):
        """The least end of all jobs, and the tuple of pairs (begin, job) of those that wait, both told from now on.

        waiting are jobs; running are pairs (left, job), ascending: how long each still runs.
        """
        if not waiting:
            return (running[-1][0], ())
        if (waiting, running) not in self.found:
            ready = [job for job in waiting if not any([need in waiting for need in self.plan[job][1]])]
            self.found[waiting, running] = min([self.best_with(job, waiting, running) for job in ready])
        return self.found[waiting, running]

    def best_with(self, job, waiting, running):
        """What best tells, if this one of the waiting jobs begins ahead of the others."""
        wait = self.wait_for(job, running)
        others = tuple([other for other in waiting if other != job])
        still = [(left - wait, other) for left, other in running if left > wait]
        end, begins = self.best(others, tuple(sorted(still + [(self.plan[job][0], job)])))
        return (wait + end, ((wait, job),) + tuple([(wait + begin, other) for begin, other in begins]))

    def wait_for(self, job, running):
        """How long a job has to wait for the running ones: until one of these ends, or not at all."""
        return [wait for wait in [0] + [left for left, _ in running] if self.can_begin(job, running, wait)][0]

    def can_begin(self, job, running, wait):
        """Whether a job can begin after a wait, beside those that still run then."""
        _, needs, taken = self.plan[job]
        still = [other for left, other in running if left > wait]
        if any([need in still for need in needs]):
            return False
        return len(still) < self.machines and room_of(self.plan, still) + taken <= self.room


def schedule_end(plan, machines, room, value):
    """When the last job of any value, a schedule, ends; None if it is none."""
    check_works(plan, machines, room)
    if not has_schedule_form(plan, machines, value):
        return None
    ends = [begin + job[0] for (begin, _), job in zip(value, plan)]
    for index, (begin, machine) in enumerate(value):
        if any([ends[need] > begin for need in plan[index][1]]):
            return None
        running = [other for other, (ahead, _) in enumerate(value) if ahead <= begin < ends[other]]
        if room_of(plan, running) > room or [value[other][1] for other in running].count(machine) > 1:
            return None
    return max(ends)


def least_end(plan, machines, room):
    """The least end of all schedules, None if there is none."""
    check_works(plan, machines, room)
    if takes_too_much(plan, room):
        return None
    return best_begins(plan, machines, room)[0]


def best_schedule(plan, machines, room):
    """A schedule that has the least end, None if there is none."""
    check_works(plan, machines, room)
    if takes_too_much(plan, room):
        return None
    return with_machines(plan, machines, best_begins(plan, machines, room)[1])


def plan_bounds(plan, machines, room):
    """Three ends below which none can be: by what jobs need, by the machines, and by the room."""
    check_works(plan, machines, room)
    lengths = sum([job[0] for job in plan])
    return (longest_way(plan), rounded_up(lengths, machines), room_bound(plan, room))


def least_machines(plan, room, end):
    """The least number of machines by which a schedule ends at the end, or ahead of it; None if there is none."""
    check_plan(plan)
    check_room(room)
    check_end(end)
    if takes_too_much(plan, room) or longest_way(plan) > end:
        return None
    # More machines than jobs are never of use.
    for machines in range(1, len(plan) + 1):
        if best_begins(plan, machines, room)[0] <= end:
            return machines
    return None


def best_begins(plan, machines, room):
    """The least end of all schedules, and the list of the begins of one that has it, where no job takes too much."""
    end, begins = Search(plan, machines, room).best(tuple(range(len(plan))), ())
    moments = {job: begin for begin, job in begins}
    return (end, [moments[job] for job in range(len(plan))])


def longest_way(plan):
    """The longest way of jobs each of which needs the one ahead, by their lengths together."""
    ways = []
    for length, needs, _ in plan:
        ways.append(length + max([ways[need] for need in needs], default=0))
    return max(ways)


def room_bound(plan, room):
    """The end below which none can be by the room, None if some job takes more than there is."""
    if takes_too_much(plan, room):
        return None
    return rounded_up(sum([length * taken for length, _, taken in plan]), room) if room > 0 else 0


def rounded_up(number, parts):
    """A number divided by parts, rounded up."""
    return (number + parts - 1) // parts


def has_schedule_form(plan, machines, value):
    """Whether any value is a tuple of a pair of a begin and a machine for each job."""
    if not isinstance(value, tuple) or len(value) != len(plan):
        return False
    if not all([isinstance(thing, tuple) and len(thing) == 2 for thing in value]):
        return False
    return all([is_from_to(begin, 0, LAST_BEGIN) and is_from_to(machine, 0, machines - 1) for begin, machine in value])
