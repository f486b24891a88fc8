"""Points 34 and 35: texts of trees, books and rows of steps, written and read, and each way to spoil one."""

import random
import re
import unittest

from buildroom.books import Book
from buildroom.errors import BadBook, BadSteps, BadTree, BadWords, InvalidText, NoText
from buildroom.texts import book_text, read_book, read_steps, read_tree, steps_text, tree_text
from tests.chance import MADE, some_book, some_step, some_tree
from tests.helpers import STRANGE, fault

LONG = "z" * 200
FULL = tuple([(f"f{number:02}", "") for number in range(20)])
FULL_TEXT = "\n".join([f"file {path}\n| " for path, _ in FULL])
RULES = tuple([(f"m{number}", "join", ()) for number in range(8)])
RULES_TEXT = "\n".join([f"rule {rule[0]} join" for rule in RULES])
READERS = (read_tree, read_book, read_steps)

PATH = r"[a-z0-9]{1,6}(?:/[a-z0-9]{1,6}){0,2}"
TEXT = r"(?:\n\| [ -~]*)+"
WORD = r"[!-~]{1,8}"
THINGS = (rf"join(?: {PATH}){{0,4}}|(?:size|sort|use) {PATH}|(?:pick|need) {PATH} {WORD}|names(?: {PATH})?"
          rf"|choose(?: {PATH}){{3}}")
STEP = (rf"(?:write|back|spoil) {PATH}{TEXT}|(?:drop|touch|lose|forget) {PATH}|swap [0-2]|build"
        r"|cut (?:1?[0-9]|20)")
SHAPES = {
    read_tree: re.compile(rf"(?:file {PATH}{TEXT}(?:\nfile {PATH}{TEXT}){{0,19}})?"),
    read_book: re.compile(rf"(?:rule {PATH} (?:{THINGS})(?:\nrule {PATH} (?:{THINGS})){{0,7}})?"),
    read_steps: re.compile(rf"(?:(?:{STEP})(?:\n(?:{STEP})){{0,59}})?"),
}


def in_the_way(one, other):
    return (one + "/").startswith(other + "/") or (other + "/").startswith(one + "/")


def is_right(read, text):
    """Whether a text can be read, by one pattern for the whole of it, and by what hangs on other lines."""
    if not SHAPES[read].fullmatch(text):
        return False
    texts = re.findall(r"(?<=\n)\| [ -~]*(?:\n\| [ -~]*)*", text)
    if any(len(part) - 2 * len(part.split("\n")) > 200 for part in texts):
        return False
    if read is read_steps:
        return True
    paths = re.findall(rf"^(?:file|rule) ({PATH})", text, flags=re.M)
    if read is read_tree and paths != sorted(paths):
        return False
    return not any(in_the_way(one, other) for at, one in enumerate(paths) for other in paths[:at])


class Written(unittest.TestCase):
    def test_trees(self):
        for tree, text in (((), ""), ((("a", ""),), "file a\n| "), ((("a", "x"),), "file a\n| x"),
                           ((("a", "\n"),), "file a\n| \n| "), ((("a", "| x\n file b"),), "file a\n| | x\n|  file b"),
                           ((("a", "x"), ("b/c/d", " y ")), "file a\n| x\nfile b/c/d\n|  y "), (FULL, FULL_TEXT)):
            self.assertEqual([tree_text(tree), read_tree(text)], [text, tree])

    def test_books(self):
        for rule, text in ((("m", "join", ()), "m join"), (("m/n", "join", ("a", "b/c", "a", "d")), "m/n join a b/c a d"),
                           (("m", "size", "a"), "m size a"), (("m", "sort", "a/b"), "m sort a/b"),
                           (("m", "use", "a"), "m use a"), (("m", "pick", "a", "|"), "m pick a |"),
                           (("m", "need", "a", "rule~!.x"), "m need a rule~!.x"), (("m", "names", ""), "m names"),
                           (("m", "names", "a/b/c"), "m names a/b/c"), (("m", "choose", "a", "b", "a"), "m choose a b a"),
                           (("rule", "use", "use"), "rule use use")):
            self.assertEqual([book_text(Book((rule,))), read_book("rule " + text).rules], ["rule " + text, (rule,)])
        self.assertEqual([book_text(Book(())), read_book("").rules], ["", ()])
        self.assertEqual([book_text(Book(RULES)), read_book(RULES_TEXT).rules], [RULES_TEXT, RULES])

    def test_rules_stay_in_their_order(self):
        book = Book((("z", "size", "a"), ("b", "size", "z")))
        self.assertEqual([book_text(book), read_book(book_text(book)).rules],
                         ["rule z size a\nrule b size z", book.rules])

    def test_steps(self):
        for step, text in ((("write", "a", ""), "write a\n| "), (("back", "a/b", "x\ny"), "back a/b\n| x\n| y"),
                           (("spoil", "m", "\n"), "spoil m\n| \n| "), (("drop", "a"), "drop a"), (("touch", "a"), "touch a"),
                           (("lose", "m"), "lose m"), (("forget", "m"), "forget m"), (("swap", 0), "swap 0"),
                           (("swap", 2), "swap 2"), (("build",), "build"), (("cut", 0), "cut 0"), (("cut", 20), "cut 20")):
            self.assertEqual([steps_text((step,)), read_steps(text)], [text, (step,)])
            self.assertEqual([steps_text((step,) * 60), read_steps("\n".join([text] * 60))],
                             ["\n".join([text] * 60), (step,) * 60])
        self.assertEqual([steps_text(()), read_steps("")], ["", ()])

    def test_paths_of_steps_may_be_made_by_some_books_and_not_by_others(self):
        row = (("write", "a", "x"), ("spoil", "a", "x"), ("lose", "b"), ("drop", "b"))
        self.assertEqual(read_steps(steps_text(row)), row)

    def test_no_text_of_words_with_blanks(self):
        for word in (" ", "a b", " a", "a "):
            for kind in ("pick", "need"):
                self.assertEqual(fault(book_text, Book((("m", "size", "a"), ("n", kind, "a", word)))), (NoText, {}))

    def test_kinds(self):
        self.assertIsInstance(read_book(""), Book)
        for call in (read_tree, read_steps):
            self.assertIsInstance(call(""), tuple)

    def test_written_and_read_again(self):
        dice = random.Random(34)
        for _ in range(150):
            tree, book = some_tree(dice), some_book(dice)
            row = tuple([some_step(dice, MADE, 3) for _ in range(dice.randint(0, 60))])
            for value, write, read in ((tree, tree_text, read_tree), (book, book_text, read_book),
                                       (row, steps_text, read_steps)):
                text = write(value)
                self.assertEqual(read(text), value)
                self.assertEqual(write(read(text)), text)
                self.assertTrue(is_right(read, text))


class Spoiled(unittest.TestCase):
    def hold(self, read, *texts):
        """Tuples of a text, its lines joined, and the line and the word that cannot stand there."""
        for lines, line, word in texts:
            with self.subTest(lines=lines):
                self.assertEqual(fault(read, "\n".join(lines)), (InvalidText, {"line": line, "word": word}))
                self.assertFalse(is_right(read, "\n".join(lines)))

    def test_first_words(self):
        for word in ("x", "File", "files", "", "||", "|x", "filea", "rul", "\t", "file\t", "\u00fc"):
            self.hold(read_tree, ([word + " a", "| x"], 1, 1), (["file a", "| x", word + " b", "| x"], 3, 1))
            self.hold(read_book, ([word + " a join"], 1, 1), (["rule a join", word + " b join"], 2, 1))
            self.hold(read_steps, ([word + " a"], 1, 1), (["build", word], 2, 1), (["drop a", word + " a"], 2, 1))
        self.hold(read_tree, (["rule a join"], 1, 1), (["build"], 1, 1))
        self.hold(read_book, (["file a", "| "], 1, 1), (["build"], 1, 1))
        self.hold(read_steps, (["file a", "| "], 1, 1), (["rule a join"], 1, 1))

    def test_empty_lines(self):
        for read, text in ((read_tree, ["file a", "| "]), (read_book, ["rule a join"]), (read_steps, ["build"])):
            self.hold(read, (["", ""], 1, 1), ([""] + text, 1, 1), (text + [""], len(text) + 1, 1),
                      (text + ["", ""], len(text) + 1, 1), ([" "], 1, 1), ([" " + text[0]] + text[1:], 1, 1))

    def test_empty_words(self):
        self.hold(read_tree, (["file  a", "| "], 1, 2), (["file a ", "| "], 1, 3), (["file ", "| "], 1, 2))
        self.hold(read_book, (["rule  a join"], 1, 2), (["rule a  join"], 1, 3), (["rule a join "], 1, 4),
                  (["rule a join b "], 1, 5), (["rule a join b  c"], 1, 5), (["rule a names "], 1, 4),
                  (["rule a names b "], 1, 5), (["rule a pick b "], 1, 5), (["rule a pick b  "], 1, 5),
                  (["rule a pick b c "], 1, 6), (["rule a pick b c d"], 1, 6), (["rule a size "], 1, 4))
        self.hold(read_steps, (["build "], 1, 2), (["drop  a"], 1, 2), (["drop a "], 1, 3), (["cut "], 1, 2),
                  (["cut 0 "], 1, 3), (["write a ", "| "], 1, 3))

    def test_lines_that_end_too_early(self):
        self.hold(read_tree, (["file"], 1, 2), (["file a", "| ", "file"], 3, 2))
        self.hold(read_book, (["rule"], 1, 2), (["rule a"], 1, 3), (["rule a size"], 1, 4), (["rule a sort"], 1, 4),
                  (["rule a use"], 1, 4), (["rule a pick"], 1, 4), (["rule a pick b"], 1, 5), (["rule a need b"], 1, 5),
                  (["rule a choose"], 1, 4), (["rule a choose b"], 1, 5), (["rule a choose b c"], 1, 6),
                  (["rule b join", "rule a choose b c"], 2, 6))
        self.hold(read_steps, *[([word], 1, 2) for word in ("write", "back", "drop", "touch", "spoil", "lose", "forget",
                                                            "swap", "cut")])

    def test_lines_that_end_too_late(self):
        self.hold(read_tree, (["file a b", "| "], 1, 3), (["file a | x"], 1, 3))
        self.hold(read_book, (["rule a size b c"], 1, 5), (["rule a sort b c"], 1, 5), (["rule a use b c"], 1, 5),
                  (["rule a pick b c d"], 1, 6), (["rule a need b c d"], 1, 6), (["rule a names b c"], 1, 5),
                  (["rule a choose b c d e"], 1, 7), (["rule a join b c d e f"], 1, 8), (["rule a join b c d e f g"], 1, 8),
                  (["rule a join b c d e "], 1, 8))
        self.hold(read_steps, (["build a"], 1, 2), (["drop a b"], 1, 3), (["write a b", "| "], 1, 3), (["cut 0 0"], 1, 3),
                  (["swap 1 0"], 1, 3), (["spoil m x", "| "], 1, 3), (["touch a | x"], 1, 3), (["lose m m"], 1, 3))

    def test_paths_kinds_and_words(self):
        wrong = ("A", "a/b/c/d", "abcdefg", "a/", "/a", "a//b", "a.b", "\u00fc", "a\t", "|", "-")
        for path in wrong:
            self.hold(read_tree, ([f"file {path}", "| "], 1, 2), (["file a", "| ", f"file {path} x", "| "], 3, 2))
            self.hold(read_book, ([f"rule {path} join"], 1, 2), ([f"rule m join a b {path} c"], 1, 6),
                      ([f"rule m size {path}"], 1, 4), ([f"rule m names {path}"], 1, 4), ([f"rule m pick {path} x"], 1, 4),
                      ([f"rule m choose a {path} {path}"], 1, 5), ([f"rule m choose a b {path}"], 1, 6),
                      ([f"rule m {path} a"], 1, 3))
            self.hold(read_steps, *[([f"{word} {path}", "| "], 1, 2) for word in ("write", "drop", "spoil", "lose")])
        for kind in ("Join", "joins", "make", "file", ""):
            self.hold(read_book, ([f"rule m {kind} a"], 1, 3))
        for word in ("123456789", "a\tb", "\u00fc", "\x7f"):
            self.hold(read_book, ([f"rule m pick a {word}"], 1, 5), ([f"rule m need a {word} b"], 1, 5))

    def test_numbers(self):
        for word in ("3", "-1", "00", "01", "+1", "1.0", "one", "\u0661", "2 ", "None", "True", "20", "21", "1_0"):
            if word not in ("2 ",):
                self.hold(read_steps, ([f"swap {word}"], 1, 2))
            if word not in ("20", "3", "2 "):
                self.hold(read_steps, ([f"cut {word}"], 1, 2))
        self.assertEqual(read_steps("cut 20\nswap 2"), (("cut", 20), ("swap", 2)))

    def test_lines_of_texts_that_have_to_come(self):
        for read, first in ((read_tree, "file a"), (read_steps, "write a"), (read_steps, "back a"), (read_steps, "spoil m")):
            self.hold(read, ([first], 2, 1), ([first, "|"], 2, 1), ([first, ""], 2, 1), ([first, "x"], 2, 1),
                      ([first, "|x"], 2, 1), ([first, " | x"], 2, 1), ([first, first, "| "], 2, 1),
                      ([first, "| x", "|"], 3, 1), ([first, "| x", "|y"], 3, 1), ([first, "| x", " | y"], 3, 1),
                      ([first, "|", "| x"], 2, 1))
        self.hold(read_tree, (["file a", "| x", "file b"], 4, 1), (["file a", "| x", "file b", "file c"], 4, 1))
        self.hold(read_steps, (["build", "write b"], 3, 1), (["build", "write b", "build"], 3, 1))

    def test_lines_of_texts_where_none_can_come(self):
        self.hold(read_tree, (["| x"], 1, 1), (["| "], 1, 1))
        self.hold(read_book, (["| x"], 1, 1), (["rule a join", "| "], 2, 1))
        self.hold(read_steps, (["| x"], 1, 1), (["build", "| "], 2, 1), (["drop a", "| x"], 2, 1), (["cut 0", "| x"], 2, 1),
                  (["lose m", "| x"], 2, 1), (["swap 0", "| x"], 2, 1))

    def test_long_texts(self):
        for read, first in ((read_tree, "file a"), (read_steps, "write a"), (read_steps, "back a"), (read_steps, "spoil m")):
            for lines in (["| " + LONG], ["| " + LONG[1:], "| "], ["| " + LONG[:100], "| " + LONG[:99]], ["| "] * 201):
                self.assertEqual(fault(read, "\n".join([first] + lines))[0], "returned")
            self.hold(read, ([first, "| z" + LONG], 2, 2), ([first, "| " + LONG, "| "], 3, 2),
                      ([first, "| " + LONG[:100], "| " + LONG[:100]], 3, 2), ([first] + ["| "] * 202, 203, 2),
                      ([first, "| x", "| " + LONG, "| y"], 3, 2), ([first, "| z" + LONG, "x"], 2, 2))

    def test_signs_that_no_text_has(self):
        for sign in ("\t", "\r", "\x00", "\x7f", "\x80", "\u00fc", "\u2028", "\x0b", "\x1f"):
            for read, first in ((read_tree, "file a"), (read_steps, "write a"), (read_steps, "spoil m")):
                self.hold(read, ([first, "| " + sign], 2, 2), ([first, "| x", "| y" + sign + "z", "| x"], 3, 2),
                          ([first, "|" + sign], 2, 1))

    def test_paths_of_files(self):
        for ahead, path in (("b", "a"), ("b", "b"), ("b", "b/c"), ("b/c", "b"), ("b/c", "b/c/d"), ("b/c", "a/z"), ("a/b", "a")):
            self.hold(read_tree, ([f"file {ahead}", "| ", f"file {path}", "| "], 3, 2))
        self.hold(read_tree, (["file a", "| ", "file a0", "| ", "file a/b", "| "], 5, 2),
                  (["file a/b", "| ", "file b", "| ", "file b/c d"], 5, 2))

    def test_made_paths(self):
        for ahead, path in (("b", "b"), ("b", "b/c"), ("b/c", "b"), ("b/c", "b/c/d")):
            self.hold(read_book, ([f"rule {ahead} join", "rule z join", f"rule {path} join"], 3, 2))
        self.assertEqual(len(read_book("rule b join\nrule a join\nrule b0/c join")), 3)

    def test_one_more_than_there_can_be(self):
        self.hold(read_tree, ((FULL_TEXT + "\nfile g\n| ").split("\n"), 41, 1), ((FULL_TEXT + "\nfile").split("\n"), 41, 1),
                  ((FULL_TEXT + "\nx").split("\n"), 41, 1))
        self.assertEqual(read_tree(FULL_TEXT + "\n| x"), FULL[:19] + (("f19", "\nx"),))
        self.hold(read_book, ((RULES_TEXT + "\nrule n join").split("\n"), 9, 1), ((RULES_TEXT + "\nrule").split("\n"), 9, 1))
        self.hold(read_steps, (["build"] * 61, 61, 1), (["build"] * 60 + ["drop a"], 61, 1))
        self.hold(read_steps, (["write a", "| "] * 60 + ["build"], 121, 1))

    def test_by_chance(self):
        dice = random.Random(35)
        signs = " |\nabf/0~\t"
        words = ("file", "rule", "a", "b/c", "join", "names", "|", "| x", "", "write", "drop", "cut", "5", "\n", "build", " ")
        counts = {}
        for number in range(6000):
            read = READERS[number % 3]
            text = (tree_text(some_tree(dice)), book_text(some_book(dice, MADE[:3])),
                    steps_text(tuple([some_step(dice, MADE, 3) for _ in range(dice.randint(0, 5))])))[number % 3]
            for _ in range(dice.randint(0, 2)):
                at = dice.randint(0, len(text))
                put = dice.choice((dice.choice(signs), dice.choice(words), ""))
                text = text[:at] + put + text[at + dice.randint(0, 3):]
            with self.subTest(read=read, text=text):
                kind, fields = fault(read, text)
                self.assertEqual(kind == "returned", is_right(read, text))
                counts[read, kind == "returned"] = counts.get((read, kind == "returned"), 0) + 1
                if kind == "returned":
                    self.assertEqual((tree_text, book_text, steps_text)[number % 3](fields), text)
                else:
                    self.assertIs(kind, InvalidText)
                    self.hold_first(read, text.split("\n"), **fields)
        self.assertGreater(min(counts.values()), 200)

    def hold_first(self, read, lines, line, word):
        """The lines ahead can stand, if a text may come behind them; and nothing behind the word is asked for."""
        ahead = "\n".join(lines[:line - 1])
        self.assertTrue(is_right(read, ahead) or is_right(read, ahead + "\n| "), ahead)
        self.assertLessEqual(line, len(lines) + 1)
        told = lines[line - 1].split(" ") if line <= len(lines) else []
        if not lines[line - 1:line] or not lines[line - 1].startswith("| "):
            self.assertLessEqual(word, len(told) + 1)
        if line <= len(lines) and word <= len(told) and not lines[line - 1].startswith("|"):
            cut = "\n".join(lines[:line - 1] + [" ".join(told[:word] + ["other", "words"]), "behind", "it"])
            self.assertEqual(fault(read, cut), (InvalidText, {"line": line, "word": word}))


class Wrong(unittest.TestCase):
    def test_what_is_no_string(self):
        for value in STRANGE + ((), [], b"", b"file a", ["file a"], ("file a",), {"file": "a"}):
            for read in READERS:
                with self.subTest(value=value):
                    if isinstance(value, str):
                        self.assertEqual(fault(read, value), (InvalidText, {"line": 1, "word": 1}))
                    else:
                        self.assertEqual(fault(read, value), (BadWords, {}))

    def test_trees(self):
        for value in STRANGE + ("", [], FULL + (("g", ""),)):
            index = 0 if isinstance(value, tuple) and len(value) < 21 else None
            self.assertEqual(fault(tree_text, value), (BadTree, {"index": index}))
        self.assertEqual(fault(tree_text, (("a", "x"), ("a/b", ""))), (BadTree, {"index": 1}))

    def test_books(self):
        for value in STRANGE + ("", (), RULES, [Book(())]):
            self.assertEqual(fault(book_text, value), (BadBook, {}))

    def test_rows_of_steps(self):
        build = ("build",)
        for value in STRANGE + ("", [], [build], {0: build}, build, (build,) * 61, (None,) * 61):
            index = 0 if isinstance(value, tuple) and len(value) < 61 else None
            with self.subTest(value=value):
                self.assertEqual(fault(steps_text, value), (BadSteps, {"index": index}))
        wrong = STRANGE + ((), "", ("build", 0), ["build"], ("Build",), ("cut",), ("cut", 21), ("cut", -1), ("cut", True),
                           ("cut", "0"), ("swap", 3), ("swap", -1), ("swap", False), ("swap",), ("write", "a"),
                           ("write", "", "x"), ("write", "a", LONG + "z"), ("write", "a", None), ("write", "a", "\t"),
                           ("write", "a", "x", "y"), ("drop",), ("drop", "A"), ("drop", ["a"]), ("touch", "a", "x"),
                           ("spoil", "m"), ("lose", None), ("forget", "m", ""), (["build"],), ({},), (None,))
        for thing in wrong:
            with self.subTest(thing=thing):
                self.assertEqual(fault(steps_text, (build, thing, None)), (BadSteps, {"index": 1}))
                self.assertEqual(fault(steps_text, (build,) * 59 + (thing,)), (BadSteps, {"index": 59}))


if __name__ == "__main__":
    unittest.main()
