"""Lists: orders by which the jobs of a plan begin whenever they can, and what is odd about their ends."""

from itertools import permutations

from buildroom.counts import is_from_to
from buildroom.errors import BadOrder, TooManyStates
from buildroom.plans import (MOST_MACHINES, MOST_ROOM, check_end, check_plan, check_works, room_of, takes_too_much,
                             with_machines)

MOST_ORDERED = 6
MOST_ORDERS = 720


def list_schedule(plan, machines, room, order):
    """The schedule by the list of an order, None if some job takes too much room."""
    check_works(plan, machines, room)
    check_order(plan, order)
    if takes_too_much(plan, room):
        return None
    return with_machines(plan, machines, list_begins(plan, machines, room, order))


def list_end(plan, machines, room, order):
    """The end by the list of an order, None if some job takes too much room."""
    check_works(plan, machines, room)
    check_order(plan, order)
    if takes_too_much(plan, room):
        return None
    return end_by_list(plan, machines, room, order)


def worst_order(plan, machines, room):
    """The greatest end by a list, and the least order that has it; None if some job takes too much room."""
    check_works(plan, machines, room)
    ends = ends_by_orders(plan, machines, room)
    # The orders ascend, and the first of several greatest ones is taken.
    return max(ends, key=lambda pair: pair[0]) if ends else None


def best_order(plan, machines, room):
    """The least end by a list, and the least order that has it; None if some job takes too much room."""
    check_works(plan, machines, room)
    ends = ends_by_orders(plan, machines, room)
    return min(ends) if ends else None


def list_count(plan, machines, room, end):
    """By how many orders the list ends at the end, or ahead of it."""
    check_works(plan, machines, room)
    check_end(end)
    return len([order for last, order in ends_by_orders(plan, machines, room) if last <= end])


def count_orders(plan):
    """The number of orders in which each job stands behind all that it needs."""
    check_plan(plan)
    ways = {(): 1}
    for _ in plan:
        longer = {}
        for placed, many in ways.items():
            for job in jobs_to_place(plan, placed):
                more = tuple(sorted(placed + (job,)))
                longer[more] = longer.get(more, 0) + many
        ways = longer
    return sum(list(ways.values()))


def list_surprises(plan, machines, room, order):
    """The changes, ascending, by which the list of an order ends later, though less is asked."""
    check_works(plan, machines, room)
    check_order(plan, order)
    if takes_too_much(plan, room):
        return []
    end = end_by_list(plan, machines, room, order)
    later = [change for change, works in eased(plan, machines, room) if end_by_list(*works, order) > end]
    return sorted(later)


def list_begins(plan, machines, room, order):
    """The list of the begins of all jobs by the list of an order, where none takes too much room."""
    begins, ends, now = {}, {}, 0
    while len(begins) < len(plan):
        for job in order:
            running = [other for other in ends if ends[other] > now]
            if job not in begins and can_begin(plan, machines, room, job, running, ends):
                begins[job] = now
                ends[job] = now + plan[job][0]
        now = min([end for end in ends.values() if end > now])
    return [begins[job] for job in range(len(plan))]


def can_begin(plan, machines, room, job, running, begun):
    """Whether a job can begin beside those that run, where some have begun."""
    _, needs, taken = plan[job]
    if not all([need in begun and need not in running for need in needs]):
        return False
    return len(running) < machines and room_of(plan, running) + taken <= room


def end_by_list(plan, machines, room, order):
    """The end by the list of an order, where no job takes too much room."""
    begins = list_begins(plan, machines, room, order)
    return max([begin + job[0] for begin, job in zip(begins, plan)])


def ends_by_orders(plan, machines, room):
    """The pairs of the end by the list and the order, for all orders, ascending; none if some job takes too much."""
    if len(plan) > MOST_ORDERED:
        raise TooManyStates(MOST_ORDERS)
    if takes_too_much(plan, room):
        return []
    return [(end_by_list(plan, machines, room, order), order) for order in permutations(range(len(plan)))]


def jobs_to_place(plan, placed):
    """The jobs that are not placed, but all that they need is."""
    waiting = [job for job in range(len(plan)) if job not in placed]
    return [job for job in waiting if not any([need in waiting for need in plan[job][1]])]


def eased(plan, machines, room):
    """All changes by which less is asked, each with the tuple of the plan, the machines and the room behind it."""
    found = []
    for job, (length, needs, taken) in enumerate(plan):
        if length > 1:
            found.append((("length", job), (with_job(plan, job, (length - 1, needs, taken)), machines, room)))
        for one in needs:
            fewer = tuple([need for need in needs if need != one])
            found.append((("need", job, one), (with_job(plan, job, (length, fewer, taken)), machines, room)))
    if machines < MOST_MACHINES:
        found.append((("machine",), (plan, machines + 1, room)))
    if room < MOST_ROOM:
        found.append((("room",), (plan, machines, room + 1)))
    return found


def with_job(plan, job, other):
    """The plan with another job in the place of one."""
    return plan[:job] + (other,) + plan[job + 1:]


def is_order(plan, value):
    """Whether any value is an order of all jobs of a plan."""
    if not isinstance(value, tuple) or not all([is_from_to(thing, 0, len(plan) - 1) for thing in value]):
        return False
    return sorted(value) == list(range(len(plan)))


def check_order(plan, value):
    """Raise an error for any value that is no order of all jobs of a plan."""
    if not is_order(plan, value):
        raise BadOrder()
