"""Records of runs: whether a value is one, what it tells, whether it replays, and what of it is enough."""

from buildroom.books import check_book, is_rule
from buildroom.counts import are_ascending
from buildroom.errors import BadRecord, BadRule
from buildroom.looks import LONGEST_MADE, next_place, outcome_by, picked_lines, place_of, sorted_lines
from buildroom.paths import check_tree, has_signs, is_name
from buildroom.running import CleanBuild


def right_record(rule, value):
    """Whether any value is a record of the rule."""
    check_rule(rule)
    return is_record(rule, value)


def told_by(rule, record):
    """The outcome of the rule by a record."""
    check_rule(rule)
    check_record(rule, record)
    return outcome_by(rule, record)


def first_changed(book, tree, rule, record):
    """The place of the first look that does not see the same in a clean build, None if all do."""
    looks = looks_now(book, tree, rule, record)
    changed = [at for at, look in enumerate(record) if looks[at] != look]
    return changed[0] if changed else None


def replays(book, tree, rule, record):
    """Whether all looks of the record see the same in a clean build."""
    return first_changed(book, tree, rule, record) is None


def blunted(rule, record):
    """What the rule can tell apart of the looks of a record."""
    check_rule(rule)
    check_record(rule, record)
    return tuple([blunt_look(rule, at, look) for at, look in enumerate(record)])


def blunt_replays(book, tree, rule, record):
    """Whether the looks at the same things in a clean build are, for the rule, as those of the record."""
    looks = looks_now(book, tree, rule, record)
    if None in looks:
        return False
    return all([blunt_look(rule, at, looks[at]) == blunt_look(rule, at, look) for at, look in enumerate(record)])


def looks_now(book, tree, rule, record):
    """The looks of a clean build at the places of a record, None for what falls to a ring."""
    check_book(book)
    check_tree(tree)
    check_rule(rule)
    check_record(rule, record)
    build = CleanBuild(book, tree)
    return [build.look(place_of(look)) for look in record]


def blunt_look(rule, at, look):
    """What the rule can tell apart of the look that stands at this place of a record."""
    kind = rule[1]
    if look[0] != "text" or kind in ("join", "use") or at > 0:
        return look
    path, text = look[1], look[2]
    if kind == "size":
        return ("size", path, len(text))
    if kind == "sort":
        return ("lines", path, tuple(sorted_lines(text)))
    if kind == "pick":
        return ("picked", path, tuple(picked_lines(text, rule[3])))
    if kind == "choose":
        return ("yes", path, text == "yes")
    return ("has", path, text if rule[3] in text else None)


def is_record(rule, value):
    """Whether any value is a record of this rule."""
    if not isinstance(value, tuple):
        return False
    for at, look in enumerate(value):
        place = next_place(rule, value[:at])
        if place is None or not is_look_at(place, look):
            return False
    return next_place(rule, value) is None


def is_look_at(place, value):
    """Whether any value is a look that could be seen at a place."""
    word, where = place
    if not isinstance(value, tuple) or len(value) < 2 or value[1] != where:
        return False
    if word == "names":
        return len(value) == 3 and value[0] == "names" and are_names(value[2])
    if len(value) == 2:
        return value[0] in ("missing", "stopped")
    return len(value) == 3 and value[0] == "text" and has_signs(value[2], LONGEST_MADE)


def are_names(value):
    """Whether any value is an ascending tuple of unlike names."""
    if not isinstance(value, tuple) or not all([isinstance(name, str) and is_name(name) for name in value]):
        return False
    return are_ascending(value)


def check_rule(value):
    """Raise an error for any value that is no rule."""
    if not is_rule(value):
        raise BadRule()


def check_record(rule, value):
    """Raise an error for any value that is no record of the rule."""
    if not is_record(rule, value):
        raise BadRecord()
