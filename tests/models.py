"""Plain models of what the document says, apart from the program: many tests hold its answers against these."""

import itertools
import re

PATH = r"[a-z0-9]{1,6}(?:/[a-z0-9]{1,6}){0,2}"


class Halt(Exception):
    """A look behind which nothing more is looked at."""


class Ring(Exception):
    """A made path is wanted while it is itself being made."""


class Cut(Exception):
    """The build is cut off."""


def names_model(paths, folder):
    parts = [path.split("/") for path in paths]
    ahead = folder.split("/") if folder else []
    return tuple(sorted({names[len(ahead)] for names in parts if len(names) > len(ahead) and names[:len(ahead)] == ahead}))


def run_model(rule, see):
    """The outcome and the record of a rule, where see gives the look at a place ("path" or "names", where)."""
    looks = []

    def text(path, word="path"):
        look = see(word, path)
        looks.append(look)
        if look[0] in ("missing", "stopped"):
            raise Halt()
        return look[2]

    def made():
        kind, things = rule[1], rule[2:]
        if kind == "join":
            return "".join([text(path) for path in things[0]])
        if kind == "names":
            return "\n".join(text(things[0], "names"))
        first = text(things[0])
        if kind == "size":
            return str(len(first))
        if kind == "sort":
            return "\n".join(sorted(first.split("\n")))
        if kind == "pick":
            return "\n".join([line for line in first.split("\n") if things[1] in line])
        if kind == "use":
            return re.sub(f"^use ({PATH})$", lambda found: text(found[1]), first, flags=re.M)
        if kind == "choose":
            return text(things[1] if first == "yes" else things[2])
        return first if things[1] in first else None

    try:
        found = made()
    except Halt:
        return looks[-1], tuple(looks)
    if found is None:
        return ("lacks",), tuple(looks)
    return (("text", found) if len(found) <= 400 else ("long",)), tuple(looks)


def see_model(word, where, rules, files, texts):
    """The look at a place; texts are those that lie at made paths."""
    if word == "names":
        return ("names", where, names_model(files, where))
    if where in rules:
        return ("text", where, texts[where]) if where in texts else ("stopped", where)
    return ("text", where, files[where]) if where in files else ("missing", where)


def clean_model(book, tree):
    """For each made path the pair of its outcome and its record, by going down from each; None for those of rings."""
    rules, files, found = {rule[0]: rule for rule in book.rules}, dict(tree), {}

    def down(made, stack):
        if made in stack or (made in found and found[made] is None):
            raise Ring()
        if made not in found:
            found[made] = run_model(rules[made], lambda word, where: see(word, where, stack + (made,)))
        return found[made]

    def see(word, where, stack):
        texts = {}
        if word == "path" and where in rules:
            outcome, _ = down(where, stack)
            if outcome[0] == "text":
                texts[where] = outcome[1]
        return see_model(word, where, rules, files, texts)

    for made in sorted(rules):
        try:
            down(made, ())
        except Ring:
            found[made] = None
    return {made: found[made] for made in sorted(rules)}


class BuilderModel:
    """A builder: what lies, and files, are pairs of a text and a moment."""

    def __init__(self, books, tree, aims, way):
        self.books, self.aims, self.way = books, aims, way
        self.number, self.moments = 0, itertools.count(1)
        self.files = {path: (text, 0) for path, text in tree}
        self.lies, self.runs = {}, {}

    @property
    def tree(self):
        return tuple(sorted((path, text) for path, (text, _) in self.files.items()))

    @property
    def lying(self):
        return tuple(sorted((path, text) for path, (text, _) in self.lies.items()))

    def right(self):
        clean = clean_model(self.books[self.number], self.tree)
        texts = [clean[aim][0][1] if clean[aim] and clean[aim][0][0] == "text" else None for aim in self.aims]
        return texts == [dict(self.lying).get(aim) for aim in self.aims]

    def do(self, step):
        word, things = step[0], step[1:]
        if word in ("build", "cut"):
            return self.build(*things)
        if word in ("write", "back"):
            others = [path for path in self.files if path != things[0]]
            clash = any((path + "/").startswith(things[0] + "/") or things[0].startswith(path + "/") for path in others)
            if not clash and len(others) < 20:
                self.files[things[0]] = (things[1], -1 if word == "back" else next(self.moments))
        elif word == "drop":
            self.files.pop(things[0], None)
        elif word == "touch" and things[0] in self.files:
            self.files[things[0]] = (self.files[things[0]][0], next(self.moments))
        elif word == "spoil":
            self.lies[things[0]] = (things[1], next(self.moments))
        elif word == "lose":
            self.lies.pop(things[0], None)
        elif word == "forget":
            self.runs.pop(things[0], None)
        elif word == "swap":
            self.number = things[0]
        return ()

    def build(self, cut=None):
        self.rules = {rule[0]: rule for rule in self.books[self.number].rules}
        self.begun, self.up, self.rings, self.stack = [], set(), set(), []
        try:
            for aim in self.aims:
                try:
                    self.bring(aim, cut)
                except Ring:
                    for made in self.stack:
                        self.lies.pop(made, None)
                        self.runs.pop(made, None)
                    self.rings |= set(self.stack)
                    self.stack = []
        except Cut:
            pass
        return tuple(self.begun)

    def bring(self, made, cut):
        if made in self.stack:
            raise Ring()
        if made in self.up | self.rings:
            return
        self.stack.append(made)
        if self.old(made, cut):
            number = len(self.begun)
            self.begun.append(made)
            outcome, record = run_model(self.rules[made], lambda word, where: self.see(word, where, cut))
            text = outcome[1] if outcome[0] == "text" else None
            if number == cut:
                if text is not None:
                    self.lies[made] = (text[:len(text) // 2], next(self.moments))
                raise Cut()
            self.lies.pop(made, None)
            if text is not None:
                self.lies[made] = (text, next(self.moments))
            self.runs[made] = (self.rules[made], record, text)
        self.stack.remove(made)
        self.up.add(made)

    def see(self, word, where, cut):
        if word == "path" and where in self.rules:
            self.bring(where, cut)
            if where in self.rings:
                raise Ring()
        files, texts = dict(self.tree), dict(self.lying)
        return see_model(word, where, self.rules, files, texts)

    def old(self, made, cut):
        lies = dict(self.lying).get(made)
        if self.way == "always":
            return True
        if self.way == "moments":
            rule = self.rules[made]
            told = {"join": rule[2], "names": (), "choose": rule[2:]}.get(rule[1], rule[2:3])
            for path in told:
                if path in self.rules:
                    self.bring(path, cut)
                    if path in self.rings:
                        raise Ring()
            there = [(self.lies if path in self.rules else self.files).get(path) for path in told]
            return lies is None or None in there or max([moment for _, moment in there], default=-1) > self.lies[made][1]
        if made not in self.runs:
            return True
        rule, record, text = self.runs[made]
        if self.way == "whole" and (rule != self.rules[made] or text != lies):
            return True
        if self.way == "records" and text is not None and lies is None:
            return True
        return any(self.see("names" if look[0] == "names" else "path", look[1], cut) != look for look in record)


class StoreModel:
    """A store: near and far are lists of entries."""

    def __init__(self, room, kind, entries):
        self.room, self.kind, self.near, self.far = room, kind, [], list(entries)

    def lay_near(self, entry):
        self.near = [other for other in self.near if other != entry] + [entry]
        self.near = self.near[max(0, len(self.near) - self.room):]

    def build(self, book, tree, aims):
        self.rules, self.files = {rule[0]: rule for rule in book.rules}, dict(tree)
        self.texts, self.made, self.rings, self.stack = {}, set(), set(), []
        self.told = ([], [], [])
        for aim in aims:
            try:
                self.make(aim)
            except Ring:
                self.rings |= set(self.stack)
                self.stack = []
        return (tuple([self.texts.get(aim) for aim in aims]),) + tuple(map(tuple, self.told))

    def see(self, word, where):
        if word == "path" and where in self.rules:
            self.make(where)
        return see_model(word, where, self.rules, self.files, self.texts)

    def make(self, made):
        if made in self.rings or made in self.stack:
            raise Ring()
        if made in self.made:
            return
        self.stack.append(made)
        self.find_or_run(made)
        self.stack.remove(made)
        self.made.add(made)

    def find_or_run(self, made):
        for place, entries in ((1, list(self.near)), (2, list(self.far))):
            for entry in entries:
                if entry[0] == self.rules[made] and self.sees(entry[1]):
                    self.texts[made] = entry[2]
                    self.told[place].append(made)
                    if place == 2 or self.kind == "lately":
                        self.lay_near(entry)
                    return
        outcome, record = run_model(self.rules[made], self.see)
        self.told[0].append(made)
        if outcome[0] == "text":
            entry = (self.rules[made], record, outcome[1])
            self.texts[made] = outcome[1]
            self.lay_near(entry)
            if entry not in self.far:
                self.far.append(entry)

    def sees(self, record):
        return all(self.see("names" if look[0] == "names" else "path", look[1]) == look for look in record)


def shelf_model(kind, requests):
    """For each request (hit, thrown out or None), and what lies there behind all, told by the requests so far alone."""
    (rule, room), came, course = kind, {}, []
    for at, thing in enumerate(requests):
        out = None
        if thing not in came and len(came) == room:
            def last(other):
                return max([now for now in range(at) if requests[now] == other])

            def many(other):
                return min(2, requests[came[other]:at].count(other))

            def again(other):
                behind = [now for now in range(at, len(requests)) if requests[now] == other]
                return (0, -behind[0]) if behind else (-1, other)

            keys = {"eldest": lambda other: came[other], "newest": lambda other: -came[other], "lately": last,
                    "seldom": lambda other: (many(other), came[other]), "best": again}
            out = min(came, key=keys[rule])
            del came[out]
        course.append((thing in came, out))
        came.setdefault(thing, at)
    return course, tuple(sorted(came))
