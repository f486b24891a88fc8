"""Paths, folders, texts, and trees: ascending tuples of files, which are pairs of a path and a text."""

from buildroom.errors import Absent, BadFolder, BadPath, BadTree, BadWords, Clash, Full

MOST_NAMES = 3
LONGEST_NAME = 6
LONGEST_TEXT = 200
MOST_FILES = 20


def text_at(tree, path):
    """The text of the file at the path, None if there is none."""
    check_tree(tree)
    check_path(path)
    return dict(tree).get(path)


def names_in(tree, folder):
    """The names that come directly behind the folder, ascending, each once."""
    check_tree(tree)
    check_folder(folder)
    return names_behind(dict(tree), folder)


def put(tree, path, text):
    """The tree with the text at the path."""
    check_tree(tree)
    check_path(path)
    check_words(text)
    files = dict(tree)
    if path not in files:
        if any([in_the_way(path, other) for other in files]):
            raise Clash()
        if len(files) == MOST_FILES:
            raise Full()
    files[path] = text
    return ascending_pairs(files)


def taken(tree, path):
    """The tree without the file at the path."""
    check_tree(tree)
    check_path(path)
    if path not in dict(tree):
        raise Absent()
    return tuple([file for file in tree if file[0] != path])


def differing(one, other):
    """The paths, ascending, at which the trees do not have the same."""
    check_tree(one)
    check_tree(other)
    first, second = dict(one), dict(other)
    paths = sorted(set(list(first) + list(second)))
    return [path for path in paths if first.get(path) != second.get(path)]


def ascending_pairs(table):
    """The pairs of the keys of a table, ascending, and what stands there: the tree, if it is a table of files."""
    return tuple([(key, table[key]) for key in sorted(table)])


def names_behind(files, folder):
    """The names, ascending, each once, that come directly behind the folder in the keys of a table of files."""
    begin = len(folder) + 1 if folder else 0
    names = [path[begin:].split("/")[0] for path in files if lies_within(path, folder)]
    return tuple(sorted(set(names)))


def lies_within(path, folder):
    """Whether the path lies within the folder; none lies within itself."""
    return folder == "" or path.startswith(folder + "/")


def in_the_way(one, other):
    """Whether two paths cannot both stand in one tree, or be made by one book."""
    return one == other or lies_within(one, other) or lies_within(other, one)


def is_name(word):
    """Whether the string is a name."""
    return 1 <= len(word) <= LONGEST_NAME and all(["a" <= sign <= "z" or "0" <= sign <= "9" for sign in word])


def is_path(value):
    """Whether any value is a path."""
    if not isinstance(value, str):
        return False
    names = value.split("/")
    return len(names) <= MOST_NAMES and all([is_name(name) for name in names])


def is_folder(value):
    """Whether any value is a folder."""
    return is_path(value) or value == ""


def is_text(value):
    """Whether any value is a text."""
    return has_signs(value, LONGEST_TEXT)


def has_signs(value, most):
    """Whether any value is a string of at most so many signs, each one that a text may have."""
    if not isinstance(value, str) or len(value) > most:
        return False
    return all([" " <= sign <= "~" or sign == "\n" for sign in value])


def is_file(value):
    """Whether any value is a pair of a path and a text."""
    return isinstance(value, tuple) and len(value) == 2 and is_path(value[0]) and is_text(value[1])


def may_follow(path, files):
    """Whether a file at the path may stand behind these files of a tree."""
    if files == ():
        return True
    return path > files[-1][0] and not any([lies_within(path, file[0]) for file in files])


def check_path(value):
    """Raise an error for any value that is no path."""
    if not is_path(value):
        raise BadPath()


def check_folder(value):
    """Raise an error for any value that is no folder."""
    if not is_folder(value):
        raise BadFolder()


def check_words(value):
    """Raise an error for any value that is no text."""
    if not is_text(value):
        raise BadWords()


def check_tree(value):
    """Raise an error for any value that is no tree."""
    if not isinstance(value, tuple) or len(value) > MOST_FILES:
        raise BadTree(None)
    for index, thing in enumerate(value):
        if not is_file(thing) or not may_follow(thing[0], value[:index]):
            raise BadTree(index)
