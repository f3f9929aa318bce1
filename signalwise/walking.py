"""Walking: what a part that is run can and must do, by what is known of the signs."""

from signalwise.codes import ENDED, code_of_again, code_of_trap, leaf_code
from signalwise.remaining import part_to_begin


def walked(part, state, sure, known):
    ending = begun(part_to_begin(part, state), sure, known)
    return (ending[0], ending[1], sorted(set(ending[2])), sorted(set(ending[3])))


# A part that surely ends has one code alone: so where 0 is among the codes, surely ending is surely ending with 0.
def begun(part, sure, known):
    word = part[0]
    if word == "then":
        first = begun(part[1], sure, known)
        return in_turn(first, begun(part[2], first[1], known)) if ENDED in first[0] else first
    if word == "beside":
        return side_by_side(begun(part[1], sure, known), begun(part[2], sure, known))
    if word == "if":
        if known[part[1]] is None:
            return one_of(begun(part[2], False, known), begun(part[3], False, known))
        return begun(part[2] if known[part[1]] else part[3], sure, known)
    if word == "again":
        inner = begun(part[2], sure, known)
        return recoded(inner, [code_of_again(code) for code in inner[0]])
    if word == "hold" or word == "watch":
        return begun(part[2], sure, known)
    if word == "trap":
        inner = begun(part[1], sure, known)
        return recoded(inner, [code_of_trap(code) for code in inner[0]])
    return begun_leaf(part, sure)


def begun_leaf(part, sure):
    can = [part[1]] if part[0] == "send" else []
    must = can if sure else []
    return ([leaf_code(part)], sure, must, can)


def in_turn(first, second):
    going_past = [code for code in first[0] if code != ENDED]
    codes = sorted(set(going_past + second[0]))
    return (codes, second[1], first[2] + second[2], first[3] + second[3])


# The greater ones of two codes each are just those of either side that are below no least code.
def side_by_side(first, second):
    least = max(min(first[0]), min(second[0]))
    codes = [code for code in sorted(set(first[0] + second[0])) if code >= least]
    return (codes, first[1] and second[1], first[2] + second[2], first[3] + second[3])


# Both are begun perhaps, so neither surely ends, even where they can end with the same one code alone.
def one_of(first, second):
    return (sorted(set(first[0] + second[0])), False, [], first[3] + second[3])


def recoded(inner, codes):
    return (sorted(set(codes)), inner[1], inner[2], inner[3])
