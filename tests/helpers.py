"""What several tests share: values of every kind, what a call raises, and the examples of the document."""

# Values that are no path, folder, tree, book, rule, ring or order of any test, of each kind told as "any value".
STRANGE = (
    0,
    1,
    -1,
    10 ** 40,
    True,
    False,
    None,
    "A",
    "not a path",
    (None,),
    (True,),
    ((),),
    (("a",),),
    ((("a", "x"),),),
    ((1, (2, (3, [4]))),),
    [],
    ["a"],
    [("a", "x")],
    [("a", "size", "b")],
    [[[None]]],
    {},
    {"a": "x"},
    {1: {2: (None, [True])}},
    {("a", "x"): ["a", "x"]},
)


def fault(call, *arguments):
    """The class and the fields of the error that a call raises; what it returns, if it raises none."""
    try:
        returned = call(*arguments)
    except ValueError as error:
        return type(error), vars(error)
    return "returned", returned


def wrong_examples(text):
    """The lines of examples that do not give what stands below them: tuples (line, what stands there, what came)."""
    names, wrong = {}, []
    lines = [line for line in text.strip().split("\n") if line]
    for at, line in enumerate(lines):
        below = lines[at + 1] if at + 1 < len(lines) else ">>> "
        if not line.startswith(">>> "):
            continue
        if below.startswith(">>> "):
            exec(line[4:], names)
            continue
        came = shown(line[4:], names)
        if came != below:
            wrong.append((line, below, came))
    return wrong


def shown(source, names):
    """What an expression gives, written as the document writes it."""
    try:
        return repr(eval(source, names))
    except ValueError as error:
        fields = ", ".join(f"{name}={value!r}" for name, value in vars(error).items())
        return f"raises {type(error).__name__}({fields})"
