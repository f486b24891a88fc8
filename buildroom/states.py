"""States of shelves: what of a shelf the further requests hang on, and what a request does to it.

By "best" a state tells all lots that may lie there, and by how many hits each is behind the best of all.
"""

from buildroom.counts import are_ascending, is_from_to

MOST_COUNTED = 2


def first_state(kind):
    """The state of a shelf on which nothing lies."""
    return (((), 0),) if kind[0] == "best" else ()


def next_state(kind, state, thing):
    """The pair of whether a request is a hit, True or False, and of the state behind it."""
    rule, room = kind
    if rule == "best":
        return behind_lots(room, state, thing)
    if rule == "seldom":
        return behind_counts(room, state, thing)
    if thing in state:
        return (True, laid_last(state, thing) if rule == "lately" else state)
    if len(state) == room:
        state = state[:-1] if rule == "newest" else state[1:]
    return (False, state + (thing,))


def laid_last(state, thing):
    """The state with a thing of it laid behind all others."""
    return tuple([other for other in state if other != thing]) + (thing,)


def behind_counts(room, state, thing):
    """What next_state tells of a shelf that throws out what was asked for least often."""
    if any([other == thing for other, _ in state]):
        return (True, tuple([(other, MOST_COUNTED if other == thing else many) for other, many in state]))
    if len(state) == room:
        counts = [many for _, many in state]
        out = counts.index(min(counts))
        state = state[:out] + state[out + 1:]
    return (False, state + ((thing, 1),))


def behind_lots(room, state, thing):
    """What next_state tells of a shelf that knows all requests: hits are counted from those of the best of all."""
    ways = []
    for lot, behind in state:
        if thing in lot:
            ways.append((lot, 1 - behind))
        else:
            ways.extend([(other, -behind) for other in lots_with(room, lot, thing)])
    # Ascending, so of several ways to a lot the best one stays.
    hits = {lot: many for lot, many in sorted(ways)}
    best = max(list(hits.values()))
    return (best == 1, tuple([(lot, best - hits[lot]) for lot in hits if best - hits[lot] < room]))


def lots_with(room, lot, thing):
    """The lots that can lie there behind a request for a thing that is not in the lot."""
    if len(lot) < room:
        return [tuple(sorted(lot + (thing,)))]
    return [tuple(sorted(laid_last(lot, out)[:-1] + (thing,))) for out in lot]


def is_state(kind, things, value):
    """Whether any value has the form of a state of a shelf for so many things."""
    rule, room = kind
    if not isinstance(value, tuple):
        return False
    if rule == "best":
        return are_lots(room, things, value)
    if rule == "seldom":
        return are_counts(room, things, value)
    return are_unlike_things(room, things, value)


def are_unlike_things(room, things, value):
    """Whether any value is a tuple of at most room unlike things."""
    if not isinstance(value, tuple) or len(value) > room:
        return False
    return all([is_from_to(thing, 0, things - 1) for thing in value]) and len(set(value)) == len(value)


def are_counts(room, things, value):
    """Whether any value is a tuple of pairs of unlike things, at most room, and of how often they were asked for."""
    if not all([isinstance(pair, tuple) and len(pair) == 2 for pair in value]):
        return False
    if not all([is_from_to(many, 1, MOST_COUNTED) for _, many in value]):
        return False
    return are_unlike_things(room, things, tuple([thing for thing, _ in value]))


def are_lots(room, things, value):
    """Whether any value is a tuple of pairs of ascending lots and of what they are behind, one of them by 0."""
    if not all([isinstance(pair, tuple) and len(pair) == 2 for pair in value]):
        return False
    if not all([are_unlike_things(room, things, lot) and are_ascending(lot) for lot, _ in value]):
        return False
    if not all([is_from_to(behind, 0, room - 1) for _, behind in value]):
        return False
    return are_ascending([lot for lot, _ in value]) and 0 in [behind for _, behind in value]
