"""Looks of rules, and what they tell: what a rule looks at next, and its outcome.

A place is what can be looked at: a tuple ("path", path) or ("names", folder).
"""

from buildroom.paths import is_path, names_behind

LONGEST_MADE = 400
USE = "use "


def place_of(look):
    """What a look was at."""
    return ("names" if look[0] == "names" else "path", look[1])


def look_at(place, sources, rules, texts):
    """The look at a place: sources are the texts of files, rules and texts those of made paths, by their paths."""
    word, where = place
    if word == "names":
        return ("names", where, names_behind(sources, where))
    if where in rules:
        return ("text", where, texts[where]) if where in texts else ("stopped", where)
    return ("text", where, sources[where]) if where in sources else ("missing", where)


def next_place(rule, looks):
    """What the rule looks at behind these looks, None if it looks at nothing more."""
    if is_stopped(looks):
        return None
    places = places_known(rule, looks)
    return places[len(looks)] if len(looks) < len(places) else None


def is_stopped(looks):
    """Whether the last look ends the rule: one that is missing or stopped."""
    return len(looks) > 0 and looks[-1][0] in ("missing", "stopped")


def places_known(rule, looks):
    """All that the rule looks at, in order, as far as these looks tell."""
    kind = rule[1]
    if kind == "names":
        return [("names", rule[2])]
    paths = list(rule[2]) if kind == "join" else [rule[2]]
    if looks and kind == "use":
        paths.extend(used_paths(looks[0][2]))
    if looks and kind == "choose":
        paths.append(rule[3] if looks[0][2] == "yes" else rule[4])
    return [("path", path) for path in paths]


def outcome_by(rule, looks):
    """The outcome of the rule by all of its looks."""
    if is_stopped(looks):
        return looks[-1]
    text = text_by(rule, [look[2] for look in looks])
    if text is None:
        return ("lacks",)
    return ("text", text) if len(text) <= LONGEST_MADE else ("long",)


def text_by(rule, seen):
    """The text, however long, that the rule makes of what it has seen; None for a need without its word."""
    kind = rule[1]
    if kind == "join":
        return "".join(seen)
    if kind == "size":
        return str(len(seen[0]))
    if kind == "sort":
        return "\n".join(sorted_lines(seen[0]))
    if kind == "pick":
        return "\n".join(picked_lines(seen[0], rule[3]))
    if kind == "names":
        return "\n".join(seen[0])
    if kind == "use":
        return text_with(seen[0], seen[1:])
    if kind == "choose":
        return seen[1]
    return seen[0] if rule[3] in seen[0] else None


def text_of(outcome):
    """The text of an outcome, None if it is none."""
    return outcome[1] if outcome[0] == "text" else None


def sorted_lines(text):
    """The lines of a text, ascending."""
    return sorted(text.split("\n"))


def picked_lines(text, word):
    """The lines of a text that have the word in them, in order."""
    return [line for line in text.split("\n") if word in line]


def is_use(line):
    """Whether a line asks for the text at a path."""
    return line.startswith(USE) and is_path(line[len(USE):])


def used_paths(text):
    """The paths that the lines of a text ask for, in order."""
    return [line[len(USE):] for line in text.split("\n") if is_use(line)]


def text_with(text, used):
    """The text, its lines that ask for a path replaced by these texts, one for each."""
    lines, at = [], 0
    for line in text.split("\n"):
        if is_use(line):
            lines.append(used[at])
            at += 1
        else:
            lines.append(line)
    return "\n".join(lines)
