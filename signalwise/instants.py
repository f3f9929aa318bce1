"""Instants: what a part, and what a program, does in an instant, given which signs are there."""

from signalwise.codes import ENDED, RESTS, code_of_again, code_of_trap, leaf_code
from signalwise.remaining import body_to_begin, part_to_begin


def ran(part, state, there):
    ending = begun(part_to_begin(part, state), there)
    return (ending[0], sorted(set(ending[1])), sorted(ending[2]))


def instant(program, state, there):
    body = body_to_begin(program, state)
    if body is None:
        return (ENDED, [], [])
    return ran(body, None, there)


def fits(program, state, coming, there):
    rising = sorted(set(there))
    sent = instant(program, state, rising)[1]
    return rising == sorted(set(coming + sent))


def begun(part, there):
    word = part[0]
    if word == "then":
        first = begun(part[1], there)
        return in_turn(first, begun(part[2], there)) if first[0] == ENDED else first
    if word == "beside":
        return side_by_side(begun(part[1], there), begun(part[2], there))
    if word == "if":
        return begun(part[2] if part[1] in there else part[3], there)
    if word == "again":
        return repeated(part[1], begun(part[2], there))
    if word == "hold" or word == "watch":
        return begun(part[2], there)
    if word == "trap":
        inner = begun(part[1], there)
        return (code_of_trap(inner[0]), inner[1], inner[2])
    return begun_leaf(part)


def begun_leaf(part):
    sent = [part[1]] if part[0] == "send" else []
    return (leaf_code(part), sent, rests_left(part))


def rests_left(part):
    if part[0] == "rest":
        return [part[1]]
    return list(part[1]) if part[0] == "stay" else []


def in_turn(first, second):
    return (second[0], first[1] + second[1], second[2])


def side_by_side(first, second):
    code = max(first[0], second[0])
    left = first[2] + second[2] if code == RESTS else []
    return (code, first[1] + second[1], left)


def repeated(rest, inner):
    left = [rest] if inner[0] == ENDED else inner[2]
    return (code_of_again(inner[0]), inner[1], left)
