"""Words: a text cut into words and marks, and a place among them that moves on while they are read."""

from signalwise.errors import NoText

LETTERS = "abcdefghijklmnopqrstuvwxyz"
MARKS = "{};|"
BLANKS = " \n"
LONGEST_NAME = 8
KEPT = (
    "in", "out", "nothing", "rest", "halt", "send", "keep", "await", "if", "else",
    "again", "hold", "watch", "weak", "trap", "exit", "local",
)


def words_of(text):
    for sign in text:
        if sign not in LETTERS and sign not in MARKS and sign not in BLANKS:
            raise NoText("a sign that no text has")
    spaced = text
    for mark in MARKS:
        spaced = spaced.replace(mark, f" {mark} ")
    return spaced.split()


def is_name(word):
    return word.isalpha() and len(word) <= LONGEST_NAME and word not in KEPT


def most_open(words):
    most = 0
    now = 0
    for word in words:
        if word == "{":
            now = now + 1
        if word == "}":
            now = now - 1
        most = max(most, now)
    return most


class Words:
    def __init__(self, words):
        self.words = words
        self.place = 0

    # No word is empty, so the empty one can stand for the end.
    def peek(self):
        if self.place < len(self.words):
            return self.words[self.place]
        return ""

    def take(self):
        word = self.peek()
        self.place = self.place + 1
        return word

    def expect(self, wanted):
        if self.take() != wanted:
            raise NoText(f"not found where it should stand: {wanted!r}")

    def take_name(self):
        word = self.take()
        if not is_name(word):
            raise NoText(f"no name: {word!r}")
        return word

    def take_names(self):
        names = []
        while is_name(self.peek()):
            names.append(self.take())
        return names

    def expect_end(self):
        if self.peek() != "":
            raise NoText("something stands behind the end")
