"""The desk: rows are told to it, and it answers each."""

from signalwise.errors import NoName, NoProgram, NoRow, Unsettled
from signalwise.looking import looked
from signalwise.plain import plain
from signalwise.reading import read
from signalwise.runners import Walker
from signalwise.settling import settled, signs_that_are
from signalwise.words import LETTERS, LONGEST_NAME

LOAD = "load "
BARE_ROWS = ("where", "begin", "judge")


class Desk:
    def __init__(self):
        self.ins = []
        self.outs = []
        self.program = None
        self.walker = None

    def say(self, row):
        if not is_row(row):
            raise NoRow("no row that the desk knows")
        if row.startswith(LOAD):
            return self.load(row[len(LOAD):])
        if self.program is None:
            raise NoProgram("no program was loaded yet")
        if row == "where":
            return self.where()
        if row == "begin":
            return self.begin()
        if row == "judge":
            return self.judge()
        return self.instant_with(row.split(" ")[1:])

    # All that can be refused comes ahead of what is changed.
    def load(self, text):
        named = read(text)
        self.ins = named[0]
        self.outs = named[1]
        self.program = plain(named)
        self.begin()
        return "loaded"

    def begin(self):
        self.walker = Walker(self.program)
        return "ok"

    def where(self):
        state = self.walker.state()
        if state is None:
            return "begin"
        if state == []:
            return "ended"
        count = len(state)
        return f"rests {count}"

    def judge(self):
        told = looked(self.program)
        count = len(told[1])
        if told[0] == "let":
            return f"let {count}"
        waiting = len(told[2])
        return f"refused {count} {waiting}"

    def instant_with(self, names):
        coming = [self.sign_of_in(name) for name in names]
        try:
            there = self.walker.tick(coming)
        except Unsettled:
            return self.waits(coming)
        outs = [name for sign, name in enumerate(self.outs, start=len(self.ins)) if sign in there]
        return " ".join(["there"] + outs)

    def sign_of_in(self, name):
        if name not in self.ins:
            raise NoName(f"no in is called {name}")
        return self.ins.index(name)

    def waits(self, coming):
        known = settled(self.program, self.walker.state(), sorted(set(coming)))
        count = len(signs_that_are(None, known))
        return f"waits {count}"


def is_row(row):
    if not isinstance(row, str):
        return False
    return row in BARE_ROWS or row.startswith(LOAD) or is_tick(row.split(" "))


def is_tick(words):
    return words[0] == "tick" and all([is_in_form(word) for word in words[1:]])


# Kept words are of this form, too: a row with one is a row, and refused for the name.
def is_in_form(word):
    return 1 <= len(word) <= LONGEST_NAME and all([sign in LETTERS for sign in word])
