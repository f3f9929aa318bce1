"""Rests: the places at which a plain part can rest from one instant to the next."""

from signalwise.tree import every_part


def rests_of(part):
    return sorted([inner[1] for inner in every_part(part) if inner[0] == "rest" or inner[0] == "again"])


# Ahead of the first instant the state is None, and nothing rests.
def resting(part, state):
    if state is None:
        return False
    return any([rest in state for rest in rests_of(part)])
