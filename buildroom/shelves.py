"""Shelves, which keep a few things, and throw one out by their rule if another one is asked for."""

from buildroom.counts import is_from_to
from buildroom.errors import BadRequests, BadShelf
from buildroom.states import first_state, next_state

SHELF_RULES = ("eldest", "lately", "newest", "seldom", "best")
MOST_KEPT = 3
MOST_REQUESTS = 40
LAST_THING = 9


def shelf_course(kind, requests):
    """For each request the pair of whether it is a hit, and what is thrown out, or None."""
    return [(told[0], told[1]) for told in course_and_lots(kind, requests)]


def shelf_hits(kind, requests):
    """The number of hits."""
    return len([told for told in course_and_lots(kind, requests) if told[0]])


def shelf_lies(kind, requests):
    """What lies there behind all requests, ascending."""
    course = course_and_lots(kind, requests)
    return tuple(sorted(course[-1][2])) if course else ()


def course_and_lots(kind, requests):
    """For each request a tuple: whether it is a hit, what is thrown out or None, and what lies there behind it."""
    check_shelf(kind)
    check_requests(requests)
    if kind[0] == "best":
        return best_course(kind[1], requests)
    course, state, lot = [], first_state(kind), []
    for thing in requests:
        hit, state = next_state(kind, state, thing)
        ahead = lot
        lot = [pair[0] for pair in state] if kind[0] == "seldom" else list(state)
        out = [other for other in ahead if other not in lot]
        course.append((hit, out[0] if out else None, lot))
    return course


def best_course(room, requests):
    """What course_and_lots tells of a shelf that knows all requests."""
    course, lot = [], []
    for at, thing in enumerate(requests):
        hit, out = thing in lot, None
        if not hit and len(lot) == room:
            out = last_asked_for(lot, requests[at + 1:])
        lot = [other for other in lot if other != out]
        if not hit:
            lot.append(thing)
        course.append((hit, out, list(lot)))
    return course


def last_asked_for(lot, requests):
    """The least thing of a lot that is never asked for in the requests, otherwise the one asked for last of all."""
    never = [thing for thing in lot if thing not in requests]
    if never:
        return min(never)
    return max(lot, key=lambda thing: requests.index(thing))


def is_shelf(value):
    """Whether any value is a kind of shelf."""
    if not isinstance(value, tuple) or len(value) != 2:
        return False
    return value[0] in SHELF_RULES and is_from_to(value[1], 1, MOST_KEPT)


def check_shelf(value):
    """Raise an error for any value that is no kind of shelf."""
    if not is_shelf(value):
        raise BadShelf()


def check_requests(value):
    """Raise an error for any value that is no tuple of requests."""
    if not isinstance(value, tuple) or len(value) > MOST_REQUESTS:
        raise BadRequests(None)
    for index, thing in enumerate(value):
        if not is_from_to(thing, 0, LAST_THING):
            raise BadRequests(index)
