"""Runners: a program, or the net of one, run from instant to instant."""

from signalwise.errors import Unsettled
from signalwise.gates import gates_settled
from signalwise.instants import instant
from signalwise.settling import settled, signs_that_are


# Each class beneath has its own done_with: the signs that are there and the state behind, or a refusal, so that what is
# refused leaves the state as it was.
class Runner:
    def __init__(self):
        self.reached = None

    def tick(self, coming):
        done = self.done_with(sorted(set(coming)))
        self.reached = done[1]
        return done[0]

    def state(self):
        return None if self.reached is None else list(self.reached)


class Walker(Runner):
    def __init__(self, program):
        Runner.__init__(self)
        self.program = program

    def done_with(self, coming):
        there = signs_there(settled(self.program, self.reached, coming))
        return (there, instant(self.program, self.reached, there)[2])


class Netted(Runner):
    # The net's lists are the asker's, who may change them later.
    def __init__(self, net):
        Runner.__init__(self)
        self.net = (list(net[0]), list(net[1]), net[2], list(net[3]))

    def done_with(self, coming):
        known = gates_settled(self.net, self.reached, coming).known
        there = signs_there([known[gate] for gate in self.net[1]])
        return (there, [rest for rest, gate in enumerate(self.net[3]) if known[gate]])


def signs_there(known):
    if None in known:
        raise Unsettled("some signs of the instant are not settled")
    return signs_that_are(True, known)
