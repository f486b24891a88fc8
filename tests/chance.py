"""Books, trees and steps by chance, of all kinds over few paths, so that much of them meets."""

from buildroom.books import Book

MADE = ("a", "b", "c", "d/e")
FILES = ("s", "t", "u/v")
TEXTS = ("", "x", "y", "yes", "y\nx", "b\n\na", "use a", "use s", "use b\nuse a", "use t\nx", "xy" * 9, "z" * 200,
         "use u/v")


def some_rule(dice, made, kinds=("join", "size", "sort", "pick", "names", "use", "choose", "need")):
    one, two, three = [dice.choice(MADE + FILES) for _ in range(3)]
    kind = dice.choice(kinds)
    if kind == "join":
        return (made, kind, (one, two, three)[:dice.randint(0, 3)] + (one,) * dice.randint(0, 1))
    if kind == "names":
        return (made, kind, dice.choice(("", "u", "a")))
    if kind == "choose":
        return (made, kind, one, two, three)
    return (made, kind, one, dice.choice(("x", "y", "es"))) if kind in ("pick", "need") else (made, kind, one)


def some_book(dice, made=MADE, **more):
    return Book(tuple([some_rule(dice, path, **more) for path in dice.sample(made, len(made))]))


def some_tree(dice, paths=FILES):
    return tuple([(path, dice.choice(TEXTS)) for path in sorted(paths) if dice.random() < 0.7])


def some_step(dice, made, number):
    """A step of books by chance that make these paths."""
    word = dice.choice(("build", "build", "build", "write", "back", "drop", "touch", "spoil", "lose", "forget", "swap", "cut"))
    file, path, text = dice.choice(FILES + ("u", "s/w")), dice.choice(made), dice.choice(TEXTS)
    things = {"build": (), "write": (file, text), "back": (file, text), "drop": (file,), "touch": (file,),
              "spoil": (path, text), "lose": (path,), "forget": (path,), "swap": (dice.randrange(number),),
              "cut": (dice.randint(0, 4),)}
    return (word,) + things[word]


def some_aims(dice, made):
    return tuple(sorted(dice.sample(made, dice.randint(0, len(made)))))
