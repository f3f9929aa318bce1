"""Codes: how a part ends. 0: it has ended; 1: it rests; 2 + d: it is left by an exit to the d-th trap round it."""

ENDED = 0
RESTS = 1
LEAVES = 2


# A stay is what remains of a hold whose sign is there: like a rest that is begun, of several rests at once.
def leaf_code(part):
    if part[0] == "exit":
        return LEAVES + part[1]
    if part[0] == "rest" or part[0] == "stay":
        return RESTS
    return ENDED


def code_of_again(code):
    return RESTS if code == ENDED else code


def code_of_trap(code):
    if code == LEAVES:
        return ENDED
    return code - 1 if code > LEAVES else code
