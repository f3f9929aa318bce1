"""Wiring: the gates of a net while it is made, and which of them belong to a part."""


# From around the part come runs, how it is run; kept, whether the rests it leaves are left indeed and not lost to an
# exit beside it; and stays, whether a hold round it does nothing and it rests on. Of the part itself come rests,
# whether it rests, and codes, a gate for each code with which it could ever end.
class Wired:
    def __init__(self, runs, kept, stays):
        self.runs = runs
        self.kept = kept
        self.stays = stays
        self.rests = None
        self.codes = {}


class Wiring:
    def __init__(self, signs):
        self.gates = []
        self.signs = [self.later() for sign in range(signs)]
        self.senders = [[] for sign in range(signs)]
        self.leavers = {}

    def gate(self, word, numbers):
        self.gates.append((word, tuple(numbers)))
        return len(self.gates) - 1

    # Some gates are named ahead of those on which they hang, and filled in when these are there.
    def later(self):
        return self.gate("some", [])

    def fill(self, number, word, numbers):
        self.gates[number] = (word, tuple(numbers))

    def opposite(self, number):
        return self.gate("not", [number])

    def every_of(self, numbers):
        return self.gate("all", numbers)

    def some_of(self, numbers):
        return numbers[0] if len(numbers) == 1 else self.gate("some", numbers)

    # Of several gates for one code one gate is made.
    def joined(self, pairs):
        codes = {}
        for code in sorted(set([pair[0] for pair in pairs])):
            codes[code] = self.some_of([pair[1] for pair in pairs if pair[0] == code])
        return codes

    def new_part(self):
        return Wired(self.later(), self.later(), self.later())
