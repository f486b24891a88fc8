"""Readers of texts that are written in lines: which word of which line is the first that cannot stand there."""

from buildroom.errors import BadWords, InvalidText
from buildroom.paths import is_text

BAR = "| "


class Reader:
    """Goes through the lines of a text, and the words of a line; one that cannot stand there raises an error."""

    def __init__(self, value):
        if not isinstance(value, str):
            raise BadWords()
        self.lines = value.split("\n") if value != "" else []
        self.words = []
        # How many lines were begun, and how many words of the last one of them were taken.
        self.begun = 0
        self.passed = 0

    def has_lines(self):
        """Whether there is a line behind those that were begun."""
        return self.begun < len(self.lines)

    def begin_line(self):
        """Go on to the words of the next line."""
        self.words = self.lines[self.begun].split(" ")
        self.begun += 1
        self.passed = 0

    def next_word(self):
        """The next word of the line, None behind the last one."""
        return self.words[self.passed] if self.passed < len(self.words) else None

    def take(self, right):
        """Take the next word, and return it, if it is right there."""
        if not right:
            raise InvalidText(self.begun, self.passed + 1)
        self.passed += 1
        return self.words[self.passed - 1]

    def end_line(self):
        """Leave the line, in which no further word can stand."""
        if self.next_word() is not None:
            raise InvalidText(self.begun, self.passed + 1)

    def take_text(self):
        """Take all lines of a text that come next, one at least, and return the text."""
        if not self.has_line_of_text():
            raise InvalidText(self.begun + 1, 1)
        read = []
        while self.has_line_of_text():
            read.append(self.lines[self.begun][len(BAR):])
            self.begun += 1
            if not is_text("\n".join(read)):
                raise InvalidText(self.begun, 2)
        return "\n".join(read)

    def has_line_of_text(self):
        """Whether the next line is one of a text."""
        return self.has_lines() and self.lines[self.begun].startswith(BAR)


def lines_of_text(text):
    """The lines in which a text is written."""
    return [BAR + line for line in text.split("\n")]
