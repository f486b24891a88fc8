"""Trees, books and rows of steps, written as texts of lines, and read again."""

from buildroom.books import FORMS, MOST_JOINED, MOST_RULES, Book, check_book, fits
from buildroom.errors import BadSteps, NoText
from buildroom.paths import MOST_FILES, check_tree, in_the_way, is_path, may_follow
from buildroom.readers import Reader, lines_of_text
from buildroom.steps import MOST_BOOKS, MOST_CUT, STEP_FORMS, has_step_form

MOST_WRITTEN = 60


def tree_text(tree):
    """The text of a tree."""
    check_tree(tree)
    lines = []
    for path, text in tree:
        lines.append("file " + path)
        lines.extend(lines_of_text(text))
    return "\n".join(lines)


def book_text(book):
    """The text of a book; NoText if a word of it has a blank."""
    check_book(book)
    return "\n".join([" ".join(["rule"] + words_of_rule(rule)) for rule in book.rules])


def steps_text(steps):
    """The text of a row of steps."""
    check_written(steps)
    return "\n".join([line for step in steps for line in lines_of_step(step)])


def read_tree(text):
    """The tree of a text; InvalidText at the first word that cannot stand there."""
    reader, files = Reader(text), ()
    while reader.has_lines():
        reader.begin_line()
        reader.take(reader.next_word() == "file" and len(files) < MOST_FILES)
        path = reader.take(is_path(reader.next_word()) and may_follow(reader.next_word(), files))
        reader.end_line()
        files = files + ((path, reader.take_text()),)
    return files


def read_book(text):
    """The book of a text; InvalidText at the first word that cannot stand there."""
    reader, rules = Reader(text), ()
    while reader.has_lines():
        reader.begin_line()
        reader.take(reader.next_word() == "rule" and len(rules) < MOST_RULES)
        made = reader.take(may_be_made(reader.next_word(), rules))
        kind = reader.take(reader.next_word() in FORMS)
        rule = (made, kind)
        for form in FORMS[kind]:
            rule = rule + (read_thing(reader, form),)
        reader.end_line()
        rules = rules + (rule,)
    return Book(rules)


def read_steps(text):
    """The row of steps of a text; InvalidText at the first word that cannot stand there."""
    reader, steps = Reader(text), ()
    while reader.has_lines():
        reader.begin_line()
        word = reader.take(reader.next_word() in STEP_FORMS and len(steps) < MOST_WRITTEN)
        step = (word,)
        for form in STEP_FORMS[word]:
            step = step + (read_step_thing(reader, form),)
        reader.end_line()
        steps = steps + (step,)
    return steps


def words_of_rule(rule):
    """The words of a rule, as they stand in its line behind the first one."""
    words = [rule[0], rule[1]]
    for form, thing in zip(FORMS[rule[1]], rule[2:]):
        if form == "paths":
            words.extend(thing)
        elif " " in thing:
            raise NoText()
        elif thing != "":
            words.append(thing)
    return words


def lines_of_step(step):
    """The lines in which a step is written."""
    words, lines = [step[0]], []
    for form, thing in zip(STEP_FORMS[step[0]], step[1:]):
        if form == "text":
            lines = lines_of_text(thing)
        else:
            words.append(str(thing))
    return [" ".join(words)] + lines


def may_be_made(word, rules):
    """Whether a word can stand as the made path of a rule behind these."""
    return is_path(word) and not any([in_the_way(word, rule[0]) for rule in rules])


def read_thing(reader, form):
    """What stands behind the kind of a rule in one of its forms, taken from the line."""
    if form == "paths":
        paths = ()
        while reader.next_word() is not None and len(paths) < MOST_JOINED:
            paths = paths + (reader.take(is_path(reader.next_word())),)
        return paths
    if form == "folder" and reader.next_word() is None:
        return ""
    return reader.take(reader.next_word() != "" and fits(form, reader.next_word()))


def read_step_thing(reader, form):
    """What stands behind the word of a step in one of its forms, taken from the line, or from those under it."""
    if form == "text":
        reader.end_line()
        return reader.take_text()
    if form in ("book", "run"):
        most = MOST_BOOKS - 1 if form == "book" else MOST_CUT
        return int(reader.take(reader.next_word() in [str(number) for number in range(most + 1)]))
    return reader.take(is_path(reader.next_word()))


def check_written(value):
    """Raise an error for any value that is no row of steps of some books."""
    if not isinstance(value, tuple) or len(value) > MOST_WRITTEN:
        raise BadSteps(None)
    for index, thing in enumerate(value):
        if not has_step_form(thing, MOST_BOOKS):
            raise BadSteps(index)
