"""Named programs and texts for the tests, the same ones at every run."""

import random

SIGN_LEAVES = ("send", "keep", "await")
BARE_LEAVES = ("nothing", "rest", "halt")
SIGN_ROUND = ("hold", "watch", "weak")
PLAIN_ROUND = ("again", "hold", "watch", "trap")
MOST_RESTS = 60
MOST_TRAPS = 6
KEPT = ("in out nothing rest halt send keep await if else again hold watch weak trap exit local").split()


class Sampler:
    def __init__(self, seed):
        self.chance = random.Random(seed)

    def name(self):
        while True:
            size = self.chance.choice((1, 1, 1, 2, 8))
            name = "".join(self.chance.choice("abcx") for _ in range(size))
            if name not in KEPT:
                return name

    def leaf(self, signs, traps):
        words = list(BARE_LEAVES)
        if signs:
            words += SIGN_LEAVES
        if traps:
            words += ("exit",) * 3
        word = self.chance.choice(words)
        if word in BARE_LEAVES:
            return (word,)
        return (word, self.chance.choice(traps if word == "exit" else signs))

    def block(self, size, signs, traps):
        """A block of just so many tuples, each name in it being there."""
        if size == 1:
            return self.leaf(signs, traps)
        if size > 2 and self.chance.random() < 0.6:
            return self.pair(size, signs, traps)
        word = self.chance.choice(("again", "trap", "local") + (SIGN_ROUND if signs else ()))
        if word == "again":
            return (word, self.block(size - 1, signs, traps))
        if word == "trap":
            name = self.name()
            return (word, name, self.block(size - 1, signs, traps + [name]))
        if word == "local":
            name = self.name()
            return (word, name, self.block(size - 1, signs + [name], traps))
        return (word, self.chance.choice(signs), self.block(size - 1, signs, traps))

    def pair(self, size, signs, traps):
        left = self.chance.randint(1, size - 2)
        first = self.block(left, signs, traps)
        second = self.block(size - 1 - left, signs, traps)
        words = ("then", "beside") * 2 + (("if",) if signs else ())
        word = self.chance.choice(words)
        if word == "if":
            return (word, self.chance.choice(signs), first, second)
        return (word, first, second)

    def named(self, size):
        names = []
        for _ in range(self.chance.randint(0, 4)):
            name = self.name()
            if name not in names:
                names.append(name)
        cut = self.chance.randint(0, len(names))
        return (names[:cut], names[cut:], self.block(size, names, []))

    def program(self, size, came, told, signs):
        """A plain program of just so many parts, made of no named one."""
        return (came, told, signs, self.plain_part(size, signs, 0, Counter()))

    def plain_part(self, size, signs, traps, rests):
        if size == 1:
            return self.plain_leaf(signs, traps, rests)
        if size > 2 and self.chance.random() < 0.6:
            left = self.chance.randint(1, size - 2)
            first = self.plain_part(left, signs, traps, rests)
            second = self.plain_part(size - 1 - left, signs, traps, rests)
            word = self.chance.choice(("then", "beside") * 2 + (("if",) if signs else ()))
            asked = (self.chance.randrange(signs),) if word == "if" else ()
            return (word, *asked, first, second)
        words = [word for word in PLAIN_ROUND if self.can_stand(word, signs, traps, rests)] or ["trap"]
        word = self.chance.choice(words)
        rests.spoken_for += word == "again"
        inner = self.plain_part(size - 1, signs, traps + (word == "trap"), rests)
        rests.spoken_for -= word == "again"
        if word == "again":
            return (word, rests.next(), inner)
        return (word, inner) if word == "trap" else (word, self.chance.randrange(signs), inner)

    def can_stand(self, word, signs, traps, rests):
        if word == "again":
            return not rests.full()
        return traps < MOST_TRAPS if word == "trap" else signs > 0

    def plain_leaf(self, signs, traps, rests):
        words = ["nothing"] + ["rest"] * 2 * (not rests.full()) + ["send"] * 3 * (signs > 0) + ["exit"] * (traps > 0)
        word = self.chance.choice(words)
        if word == "rest":
            return (word, rests.next())
        if word == "send":
            return (word, self.chance.randrange(signs))
        return (word, self.chance.randrange(traps)) if word == "exit" else (word,)

    def some(self, signs):
        """Some of the signs, rising."""
        share = self.chance.choice((0, 0.2, 0.5, 0.8, 1))
        return [sign for sign in signs if self.chance.random() < share]

    def wordy(self, named):
        """A text of the named program with needless braces, blanks and elses in it."""
        pieces = ["in", *named[0], ";", "out", *named[1], ";", *self.block_pieces(named[2])]
        text = ""
        ahead = ";"
        for piece in pieces:
            blanks = "".join(self.chance.choice(" \n") for _ in range(self.chance.choice((0, 0, 1, 2))))
            if blanks == "" and ahead.isalpha() and piece.isalpha():
                blanks = " "
            text += blanks + piece
            ahead = piece
        return text + self.chance.choice(("", " ", "\n\n"))

    def block_pieces(self, block):
        if block[0] == "beside" and not self.braces_more():
            return self.block_pieces(block[1]) + ["|"] + self.row_pieces(block[2])
        return self.row_pieces(block)

    def row_pieces(self, row):
        if row[0] == "then" and not self.braces_more():
            return self.row_pieces(row[1]) + [";"] + self.part_pieces(row[2])
        return self.part_pieces(row)

    def part_pieces(self, part):
        if part[0] in ("then", "beside") or self.braces_more():
            return self.braced_pieces(part)
        inner = [piece for piece in part if isinstance(piece, tuple)]
        pieces = [piece for piece in part if isinstance(piece, str)]
        for number, block in enumerate(inner):
            if number == 1 and block == ("nothing",) and self.chance.random() < 0.5:
                continue
            pieces += (["else"] if number == 1 else []) + self.braced_pieces(block)
        return pieces

    def braced_pieces(self, block):
        return ["{"] + self.block_pieces(block) + ["}"]

    def braces_more(self):
        return self.chance.random() < 0.1


class Counter:
    """Numbers of rests; an again takes its own behind those within it, but speaks for one ahead of them."""

    def __init__(self):
        self.count = 0
        self.spoken_for = 0

    def full(self):
        return self.count + self.spoken_for == MOST_RESTS

    def next(self):
        self.count += 1
        return self.count - 1


def open_marks(text):
    """How many marks are open where most are."""
    now = 0
    most = 0
    for sign in text:
        now += (sign == "{") - (sign == "}")
        most = max(most, now)
    return most


def row_of(count, word="rest"):
    """A row of so many parts: 2 * count - 1 tuples."""
    return ";".join([word] * count)


def body(text):
    """A text with two ins and an out, round a block."""
    return "in a b;out c;" + text


def filled(size, block):
    """A text of just so many signs round a block, without a needless one: the ins fill it up."""
    names = []
    left = size - len("in;out;" + block)
    while left > 0:
        wide = 5 if left == 10 else min(left, 9)
        names.append(fresh_name(len(names), wide - 1))
        left -= wide
    return " ".join(["in"] + names) + ";out;" + block


def fresh_name(number, size):
    if size < 4:
        return "q" * size
    return "q" * (size - 3) + "".join("bcdfghjklmnprtvwxyz"[number // 19 ** place % 19] for place in range(3))


def reachable(program, chance, instant, most):
    """Some of the states to which the program can come, whatever signs are said to be there: None first."""
    states = [None]
    for state in states:
        for _ in range(4):
            there = [sign for sign in range(program[2]) if chance.random() < 0.5]
            behind = instant(program, state, there)[2]
            if behind not in states and len(states) < most:
                states.append(behind)
    return states
