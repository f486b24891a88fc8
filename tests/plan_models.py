"""Plain models of plans, schedules, lists and slots, apart from the program; time goes on by one at a time in them."""

import itertools


def some_plan(dice, most, longest=5, needy=0.3, largest=3):
    """A plan by chance of at most so many jobs."""
    jobs = []
    for number in range(dice.randint(1, most)):
        needs = tuple([job for job in range(number) if dice.random() < needy])
        jobs.append((dice.randint(1, longest), needs, dice.randint(0, largest)))
    return tuple(jobs)


def fits_model(plan, machines, room, begins):
    """Whether jobs can begin at these moments, by a dict of some of them: looked at for each unit of time."""
    ends = {job: begin + plan[job][0] for job, begin in begins.items()}
    for job in begins:
        if any(need not in ends or ends[need] > begins[job] for need in plan[job][1]):
            return False
    for now in range(max(ends.values(), default=0)):
        running = [job for job in begins if begins[job] <= now < ends[job]]
        if len(running) > machines or sum(plan[job][2] for job in running) > room:
            return False
    return True


def schedule_model(plan, machines, room, schedule):
    """The end of a schedule of the right form, None if it is none."""
    begins = {job: begin for job, (begin, _) in enumerate(schedule)}
    if not fits_model(plan, machines, room, begins):
        return None
    for one in range(machines):
        busy = [now for job, (begin, machine) in enumerate(schedule) if machine == one
                for now in range(begin, begin + plan[job][0])]
        if len(busy) != len(set(busy)):
            return None
    return max(begin + plan[job][0] for job, begin in begins.items())


def least_end_by_begins(plan, machines, room):
    """The least end over all begins that are not above all lengths together; None if no schedule can be."""
    most = sum(length for length, _, _ in plan)
    found = []
    for row in itertools.product(range(most), repeat=len(plan)):
        end = max(begin + plan[job][0] for job, begin in enumerate(row))
        if end <= most and fits_model(plan, machines, room, dict(enumerate(row))):
            found.append(end)
    return min(found, default=None)


def least_end_by_orders(plan, machines, room):
    """The least end over all orders by which jobs begin one behind the other, each as early as it then can."""
    if any(taken > room for _, _, taken in plan):
        return None
    found = []
    for order in itertools.permutations(range(len(plan))):
        if all(order.index(need) < order.index(job) for job in order for need in plan[job][1]):
            begins = {}
            for job in order:
                begins[job] = next(now for now in itertools.count()
                                   if fits_model(plan, machines, room, {**begins, job: now}))
            found.append(max(begins[job] + plan[job][0] for job in order))
    return min(found)


def list_model(plan, machines, room, order):
    """The schedule by the list of an order, None if some job takes too much room."""
    if any(taken > room for _, _, taken in plan):
        return None
    begins, places, now = {}, {}, 0
    while len(begins) < len(plan):
        for job in order:
            if job not in begins and all(need in begins and begins[need] + plan[need][0] <= now for need in plan[job][1]):
                running = [other for other in begins if begins[other] + plan[other][0] > now]
                if len(running) < machines and sum(plan[other][2] for other in running) + plan[job][2] <= room:
                    begins[job] = now
        # All that begin at one moment take their machines then, the lesser jobs first.
        for job in sorted(begins):
            if job not in places:
                running = [other for other in places if begins[other] + plan[other][0] > now]
                places[job] = min(set(range(machines)) - {places[other] for other in running})
        now += 1
    return tuple([(begins[job], places[job]) for job in range(len(plan))])


def list_end_model(plan, machines, room, order):
    schedule = list_model(plan, machines, room, order)
    return None if schedule is None else max(begin + job[0] for (begin, _), job in zip(schedule, plan))


def moves_model(plan, slots, done, held):
    """The moves that there are, ascending; done and held are sets."""
    moves = [("end", job) for job in sorted(held) if set(plan[job][1]) <= done]
    if len(held) < slots:
        moves += [("start", job) for job in range(len(plan)) if job not in done | held]
    return moves


def moved_model(done, held, move):
    word, job = move
    return (done, held | {job}) if word == "start" else (done | {job}, held - {job})


def states_model(plan, slots):
    """All states that can be come to: pairs of frozen sets of what is done, and of what keeps slots."""
    found, waiting = set(), [(frozenset(), frozenset())]
    while waiting:
        state = waiting.pop()
        if state not in found:
            found.add(state)
            waiting += [moved_model(*state, move) for move in moves_model(plan, slots, *state)]
    return found


def stuck_model(plan, slots, done, held):
    return len(done) < len(plan) and not moves_model(plan, slots, done, held)


def can_end_model(plan, slots, done, held):
    """Whether some moves lead to the end of all jobs: all rows of moves are tried."""
    if len(done) == len(plan):
        return True
    return any(can_end_model(plan, slots, *moved_model(done, held, move))
               for move in moves_model(plan, slots, done, held))


def stuck_row_model(plan, slots):
    """The least of the shortest rows of moves to where it is stuck: all rows are gone through, the shorter first."""
    rows = [((), frozenset(), frozenset())]
    while rows:
        for row, done, held in sorted(rows, key=lambda told: told[0]):
            if stuck_model(plan, slots, done, held):
                return row
        rows = [(row + (move,), *moved_model(done, held, move)) for row, done, held in rows
                for move in moves_model(plan, slots, done, held)]
    return None
