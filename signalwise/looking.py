"""Looking through: all states to which a program can come, or the first instant found that is not settled."""

from signalwise.errors import TooMany
from signalwise.instants import instant
from signalwise.settling import settled, signs_that_are

MOST_STATES = 40


# Counted on by one sign more, all lists so far come once more with that sign behind them.
def comings(came):
    found = [[]]
    for sign in range(came):
        found = found + [coming + [sign] for coming in found]
    return found


# States are looked at in the order in which they are found, so one list is of both: those behind the place are still
# to be looked at. Comings are made anew for each, so that no way holds one list twice.
def looked(program):
    states = [None]
    ways = [[]]
    place = 0
    while place < len(states):
        for coming in comings(program[0]):
            way = ways[place] + [coming]
            known = settled(program, states[place], coming)
            if None in known:
                return ("refused", way, signs_that_are(None, known))
            behind = instant(program, states[place], signs_that_are(True, known))[2]
            if behind not in states:
                add_state(states, behind)
                ways.append(way)
        place = place + 1
    return ("let", states)


def add_state(states, state):
    if len(states) == MOST_STATES:
        raise TooMany("the program can come to too many states")
    states.append(state)
